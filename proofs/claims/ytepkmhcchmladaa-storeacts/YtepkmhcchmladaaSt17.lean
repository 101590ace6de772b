/- few over acts. -/
import Derived.Test.YtepkmhcchmladaaSt16
import Derived.Test.YtepkmhcchmladaaAArg
namespace Go.Proofs.Ytepkmhcchmladaa
open Go.RowKit Go.Shelf Go.Maps
set_option linter.unusedVariables false
set_option linter.unusedSimpArgs false

/-- Few acts of few rows. -/
def fewA (T : List AV) : Bool := (T.all fun x => fewB x.2.2.1) && decide (T.length ≤ 12)
set_option maxRecDepth 100000 in
set_option maxHeartbeats 2000000 in
theorem fewA_calls {w : World} {a : Option Addr} {T : List AV} (cap : Nat) (h : AArgs w a T) : Calls Try.prog 16 #[.slice a T.length cap] w fun e w' => (∃ b : Bool, e = .returned (.bool b) ∧ (b = true → fewA T = true)) ∧ Below w.heap.size w w' := by
  have H := Lib.hid h
  have hlen := h.len
  clear h
  go_enter Try.func16, Try.ntmps16
  go_wp2_with fail
  go_loopw [7] (fun s wr => ∃ k : Nat, k ≤ T.length ∧ s = .int .i64 k ∧ Hid (Below w.heap.size w wr) ∧ Hid ((T.take k).all (fun x => fewB x.2.2.1) = true)) (fun s _ => T.length - (intOf s).toNat)
  case atStart => exact ⟨0, Nat.zero_le _, rfl, Lib.hid (Below.refl _ _), Lib.hid (by simp)⟩
  case round =>
    obtain ⟨k, hk, rfl, HB, HA⟩ := hrel
    have hkm : T.length ≤ 9223372036854775807 := by unfold maxLen at hlen; omega
    by_cases hlt : k < T.length
    · obtain ⟨b, off, rfl, hc1, hc2⟩ := H.out.at rfl HB.out hlt
      have hn := (H.out.rows _ (atA_mem hlt)).1
      have HNX : Hid (fewB (atA T k).2.2.1 = true → (T.take (k + 1)).all (fun x => fewB x.2.2.1) = true) := Lib.hid (fun h => by
        rw [List.take_succ_eq_append_getElem hlt, List.all_append, HA.out]
        have e : atA T k = T[k] := by simp [atA, hlt]
        rw [e] at h
        simp [h])
      generalize atA T k = x at *
      obtain ⟨kd, xa, xA, xc⟩ := x
      dsimp only at hc1 hc2 hn HNX
      have HW := Lib.hid (HB.out.trans (((Below.refl wr.heap.size wr).alloc (Nat.le_refl _) (.cells #[.int .i64 kd, .slice xa xA.length xc] 66)).mono HB.out.size))
      have cf := few_calls xa xc xA (wr.alloc (.cells #[.int .i64 kd, .slice xa xA.length xc] 66)) (hn.1.below HW.out) hn.2.1 hn.2.2
      clear hn HA
      go_wp2_with fail
      refine cf.mono ?_
      rintro e w' ⟨rfl, rfl⟩
      cases hf : fewB xA
      · have F := Lib.hid (show (∃ b : Bool, Ending.returned (.bool false) = .returned (.bool b) ∧ (b = true → fewA T = true)) ∧ Below w.heap.size w (wr.alloc (.cells #[.int .i64 kd, .slice xa xA.length xc] 66)) from ⟨⟨false, rfl, fun h => by cases h⟩, HW.out⟩)
        clear cf hc1 hc2 HNX
        go_wp2_with fail
        go_ret
        exact F.out
      · have NXT := Lib.hid (HNX.out hf)
        clear cf hc1 hc2 HNX
        go_wp2_with fail
        go_roundw
        case rel => exact ⟨k + 1, by omega, by go_num, HW, NXT⟩
        case measure => simp [intOf]; omega
    · obtain rfl : k = T.length := by omega
      have tl : decide ((T.length : Int) < (T.length : Int)) = false := decide_eq_false (by omega)
      obtain ⟨b, hb⟩ : ∃ b, decide ((T.length : Int) ≤ 12) = b := ⟨_, rfl⟩
      have F := Lib.hid (show (∃ b9 : Bool, Ending.returned (.bool b) = .returned (.bool b9) ∧ (b9 = true → fewA T = true)) ∧ Below w.heap.size w wr from ⟨⟨b, rfl, fun h => by
        rw [h] at hb
        have h1 := of_decide_eq_true hb
        have h2 := HA.out
        rw [List.take_length] at h2
        unfold fewA
        rw [h2]; simp; omega⟩, HB.out⟩)
      clear HA
      go_wp2_with fail
      go_ret
      exact F.out
end Go.Proofs.Ytepkmhcchmladaa
