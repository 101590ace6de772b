/- LexJoins, walked: a second text with a fault. -/
import Derived.Test.YtecijhaclbbccaaDoorLxS
namespace Go.Proofs.YtecijhaclbbccaaDoor
open Go.RowKit
set_option linter.unusedVariables false
set_option linter.unusedSimpArgs false

theorem heldB {E : Nat} {w2 w' w'' : World} (h : Below E w2 w' ∧ E ≤ w'.heap.size) (hb : Below w'.heap.size w' w'') : Below E w2 w'' ∧ E ≤ w''.heap.size :=
  ⟨h.1.trans (hb.mono h.2), Nat.le_trans h.2 hb.size⟩
set_option maxRecDepth 100000 in
set_option maxHeartbeats 1000000 in
theorem lexJoins_bad (a b : ByteArray) (w : World) (ht : SignTab w) (hg : ErrType w) (ha : a.size ≤ 200) (hb : b.size ≤ 200) {x : List Tk} {tg : Int} {pl : Nat} (hpl : pl ≤ 1000) (hA : allM (bs a) = .ok x) (hBd : allM (bs b) = .no tg pl) (hJ : allM (bs (a ++ ⟨#[10]⟩ ++ b)) = .no tg (pl + (a.size + 1))) : Calls Tryd.prog 7 #[.string a, .string b] w (TrueRet w) := by
  have ch := head12_calls w ht
  have HT := Lib.hid ht
  have HE := Lib.hid hg
  clear ht hg
  obtain ⟨B, hB⟩ : ∃ B, w.heap.size = B := ⟨_, rfl⟩
  have HB := Lib.hid hB
  clear hB
  have t1 : decide ((200 : Int) < (a.size : Int)) = false := decide_eq_false (by omega)
  have t2 : decide ((200 : Int) < (b.size : Int)) = false := decide_eq_false (by omega)
  have hj : (a ++ ⟨#[10]⟩ : ByteArray).size ≤ 201 := by rw [ByteArray.size_append]; show a.size + 1 ≤ 201; omega
  have hjj : (a ++ ⟨#[10]⟩ ++ b : ByteArray).size ≤ 401 := by rw [ByteArray.size_append]; omega
  have HA := Lib.hid hA
  have HBd := Lib.hid hBd
  have HJ := Lib.hid hJ
  clear hA hBd hJ
  go_enter Tryd.func7, Tryd.ntmps7
  go_wp2_with fail
  refine ch.mono ?_
  rintro e w1 ⟨rfl, hb1⟩
  rw [HB.out] at hb1
  have B1 := Lib.hid hb1
  have s1 : B ≤ w1.heap.size := by have := hb1.size; rw [HB.out] at this; exact this
  clear hb1 ch
  go_wp2_with fail
  have c2 := all_calls a w1 (by omega) (HT.out.below (by rw [HB.out]; exact B1.out))
  rw [HA.out] at c2
  refine c2.mono ?_
  rintro e w2 ⟨hb2, a2, cap2, rfl, hr2⟩
  have B2 : Hid (Below B w w2) := Lib.hid (B1.out.trans (hb2.mono s1))
  have s2 : B ≤ w2.heap.size := by have := hb2.size; omega
  clear hb2 hr2 c2
  go_wp2_with fail
  have c3 := all_calls b w2 (by omega) (HT.out.below (by rw [HB.out]; exact B2.out))
  rw [HBd.out] at c3
  refine c3.mono ?_
  rintro e w3 ⟨hb3, b3, txt3, rfl, hle3, hf3⟩
  have B3 : Hid (Below B w w3) := Lib.hid (B2.out.trans (hb3.mono s2))
  have s3 : B ≤ w3.heap.size := by have := hb3.size; omega
  have F3 := Lib.hid hf3
  clear hb3 c3 hle3 hf3
  go_wp2_with fail
  have c4 := all_calls (a ++ ⟨#[10]⟩ ++ b) w3 (by omega) (HT.out.below (by rw [HB.out]; exact B3.out))
  rw [HJ.out] at c4
  refine c4.mono ?_
  rintro e w4 ⟨hb4, b4, txt4, rfl, hle4, hf4⟩
  have B4 : Hid (Below B w w4) := Lib.hid (B3.out.trans (hb4.mono s3))
  have hB4 : B ≤ w4.heap.size := by have := hb4.size; omega
  have HE4 : Hid (ErrType w4) := Lib.hid (HE.out.ext (by show Below _ _ _; rw [HB.out]; exact B4.out))
  have F34 : Hid (FaultAt w4 b3 tg (pl : Int) txt3 .nilIface) := Lib.hid (F3.out.below F3.out.lt hb4)
  have F4 := Lib.hid hf4
  obtain ⟨E, hE⟩ : ∃ E, w4.heap.size = E := ⟨_, rfl⟩
  rw [hE] at hB4
  have CO3 : Hid (∀ w', Below E w4 w' → Calls Tryd.prog 12 #[.iface 70 (.pointer (some ⟨b3, 0, none⟩))] w' (fun e w'' => e = .returned (.int .i64 tg) ∧ Below w'.heap.size w' w'')) := Lib.hid (fun w' h => by
    rw [← hE] at h
    exact of_fault b3 tg (pl : Int) txt3 .nilIface w' (F34.out.below F34.out.lt h) (.inl rfl) (HE4.out.ext h))
  have CO4 : Hid (∀ w', Below E w4 w' → Calls Tryd.prog 12 #[.iface 70 (.pointer (some ⟨b4, 0, none⟩))] w' (fun e w'' => e = .returned (.int .i64 tg) ∧ Below w'.heap.size w' w'')) := Lib.hid (fun w' h => by
    rw [← hE] at h
    exact of_fault b4 tg ((pl + (a.size + 1) : Nat) : Int) txt4 .nilIface w' (F4.out.below F4.out.lt h) (.inl rfl) (HE4.out.ext h))
  have CA3 : Hid (∀ w', Below E w4 w' → Calls Tryd.prog 13 #[.iface 70 (.pointer (some ⟨b3, 0, none⟩))] w' (fun e w'' => e = .returned (.int .i64 (pl : Int)) ∧ Below w'.heap.size w' w'')) := Lib.hid (fun w' h => by
    rw [← hE] at h
    exact at_fault b3 tg (pl : Int) txt3 .nilIface w' (F34.out.below F34.out.lt h) (.inl rfl) (HE4.out.ext h))
  have CA4 : Hid (∀ w', Below E w4 w' → Calls Tryd.prog 13 #[.iface 70 (.pointer (some ⟨b4, 0, none⟩))] w' (fun e w'' => e = .returned (.int .i64 ((pl + (a.size + 1) : Nat) : Int)) ∧ Below w'.heap.size w' w'')) := Lib.hid (fun w' h => by
    rw [← hE] at h
    exact at_fault b4 tg ((pl + (a.size + 1) : Nat) : Int) txt4 .nilIface w' (F4.out.below F4.out.lt h) (.inl rfl) (HE4.out.ext h))
  have te : (((pl + (a.size + 1) : Nat) : Int) == (a.size : Int) + 1 + (pl : Int)) = true := by rw [beq_iff_eq]; omega
  obtain ⟨ap, hap⟩ : ∃ ap : Int, ((pl + (a.size + 1) : Nat) : Int) = ap := ⟨_, rfl⟩
  rw [hap] at te CA4
  have sE : E ≤ w4.heap.size := by omega
  have q0 : Below E w4 w4 := Below.refl _ _
  clear hb4 c4 hle4 hf4 F3 F34 F4 hap hE
  go_wp2_with fail
  refine (CO4.out w4 q0).mono ?_
  rintro e w5 ⟨rfl, hb5⟩
  obtain ⟨q5, s5⟩ := heldB ⟨q0, sE⟩ hb5
  clear hb5
  go_wp2_with fail
  refine (CO3.out w5 q5).mono ?_
  rintro e w6 ⟨rfl, hb6⟩
  obtain ⟨q6, s6⟩ := heldB ⟨q5, s5⟩ hb6
  clear hb6
  go_wp2_with fail
  refine (CA4.out w6 q6).mono ?_
  rintro e w7 ⟨rfl, hb7⟩
  obtain ⟨q7, s7⟩ := heldB ⟨q6, s6⟩ hb7
  clear hb7
  go_wp2_with fail
  refine (CA3.out w7 q7).mono ?_
  rintro e w8 ⟨rfl, hb8⟩
  obtain ⟨q8, s8⟩ := heldB ⟨q7, s7⟩ hb8
  clear hb8
  go_wp2_with fail
  go_ret
  refine ⟨(?_ : Ending.returned (.bool _) = .returned (.bool true)), by rw [HB.out]; exact B4.out.trans (q8.mono hB4)⟩
  rfl
end Go.Proofs.YtecijhaclbbccaaDoor
