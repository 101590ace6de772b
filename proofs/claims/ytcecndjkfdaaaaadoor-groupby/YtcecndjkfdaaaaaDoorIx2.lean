/- Contracts of index.Key and of the law's Key. Written by mkix2.py. -/
import Derived.Test.YtcecndjkfdaaaaaDoorIx1
import Derived.OwnWalk
namespace Go.Proofs.YtcecndjkfdaaaaaDoor
open Go.RowKit
set_option linter.unusedVariables false
set_option linter.unusedSimpArgs false

/-- The elements of a row at positions; those out of range are skipped. -/
def keyL (row keys : List Int) : List Int := keys.filterMap fun k => if 0 ≤ k ∧ k < (row.length : Int) then some (row[k.toNat]?.getD 0) else none
theorem keyL_take {row keys : List Int} {i : Nat} (h : i < keys.length) : keyL row (keys.take (i + 1)) = if 0 ≤ keys[i]?.getD 0 ∧ keys[i]?.getD 0 < (row.length : Int) then keyL row (keys.take i) ++ [row[(keys[i]?.getD 0).toNat]?.getD 0] else keyL row (keys.take i) := by
  unfold keyL
  rw [List.take_succ_eq_append_getElem h, List.filterMap_append, List.getElem?_eq_getElem h]
  by_cases e : 0 ≤ keys[i] ∧ keys[i] < (row.length : Int)
  · rw [if_pos (by simpa using e)]; simp [e]
  · rw [if_neg (by simpa using e)]; simp [e]
theorem keyL_len (row keys : List Int) : (keyL row keys).length ≤ keys.length := List.length_filterMap_le _ _
/-- A call that returns a slice that reads as zs, within its capacity. -/
def KeyRet (w : World) (zs : List Int) (e : Ending) (w' : World) : Prop := ∃ a cap, e = .returned (.slice a zs.length cap) ∧ Row w' a zs ∧ zs.length ≤ cap ∧ Below w.heap.size w w'
theorem owns_cap {w : World} {B n : Nat} {t : TypeId} {a : Option Addr} {m c : Nat} {vs : List Value} (h : w.ownsRow B t 1 (.slice a m c) n vs) : m ≤ c := by
  rcases h.2 with ⟨h0, _⟩ | ⟨g, cap, cur, hv, hb, hh, hn, hrest⟩
  · cases h0; exact Nat.le_refl _
  · cases hv; exact hn
theorem grown_belowK {w w1 : World} {B : Nat} (h : w.grownBy w1 none) (hB : B ≤ w.heap.size) : Below B w w1 := (Below.refl _ _).grown h hB (fun k hk => by cases hk)

set_option maxRecDepth 100000 in
set_option maxHeartbeats 2000000 in
theorem keyA_calls (a b : Option Addr) (ca cb : Nat) (row keys : List Int) (w : World) (ha : Row w a row) (hb : Row w b keys) (hr : row.length ≤ 1000000) (hk : keys.length ≤ 1000000) (hmin : (keys.length : Int) ≤ (row.length : Int)) :
    Calls Tryd.prog 31 #[.slice a row.length ca, .slice b keys.length cb] w (KeyRet w (keyL row keys)) := by
  obtain ⟨i1, hi', hz0', hz1', hz2'⟩ := info_parts info2
  have I' := Lib.hid hi'
  have Z0' := Lib.hid hz0'
  have Z1' := Lib.hid hz1'
  have Z2' := Lib.hid hz2'
  clear hi' hz0' hz1' hz2'
  obtain ⟨B, hB⟩ : ∃ B, w.heap.size = B := ⟨_, rfl⟩
  have HB := Lib.hid hB
  have HA := Lib.hid ha
  have HK := Lib.hid hb
  clear hB ha hb
  go_enter Tryd.func31, Tryd.ntmps31
  go_wp2_with (first | (refine wpList_make_own _ rfl _ _ 22 rfl B 2 i1 (.int .i64 0) 1 Tryd.underlying22 I'.out Z0'.out Z1'.out .i64 .i64 _ keys.length rfl rfl ?m0 ?m1 ?m2 ?m3 ?_))
  case m0 => first | rfl | (simp; omega) | omega
  case m1 => rw [Z2'.out]; omega
  case m2 => unfold maxLen; omega
  case m3 => rw [HB.out]; exact Nat.le_refl _
  intro w1 hown hgrow
  have O1 := Lib.hid hown
  have B1 : Hid (Below B w w1) := Lib.hid (grown_belowK hgrow (Nat.le_of_eq HB.out.symm))
  clear hown hgrow
  generalize Value.slice (some ⟨w.heap.size, 0, none⟩) 0 keys.length = v1 at *
  go_wp2_with fail
  go_loopw [16, 5] (fun s v wr => ∃ k : Nat, k ≤ keys.length ∧ s = .int .i64 k ∧ Hid (wr.ownsRow B 2 1 v (keyL row (keys.take k)).length ((keyL row (keys.take k)).map (Value.int .i64))) ∧ Hid (Below B w wr)) (fun s _ _ => keys.length - (intOf s).toNat)
  case atStart => exact ⟨0, Nat.zero_le _, rfl, O1, B1⟩
  case round =>
    obtain ⟨k, hk', rfl, HO, HBe⟩ := hrel
    have hBr : B ≤ wr.heap.size := by have := HBe.out.size; rw [HB.out] at this; exact this
    have hll : (keyL row (keys.take k)).length ≤ 1000000 := by have := keyL_len row (keys.take k); simp at this; omega
    by_cases hlt : k < keys.length
    · obtain ⟨b2, off2, rfl, hb2, hc2⟩ := (HK.out.belowB HB.out HBe.out).at hlt
      have ST := Lib.hid (keyL_take (row := row) hlt)
      generalize keys[k]?.getD 0 = z at *
      obtain ⟨L, hL⟩ : ∃ L, keyL row (keys.take k) = L := ⟨_, rfl⟩
      rw [hL] at HO ST hll
      clear hL
      by_cases h0 : 0 ≤ z ∧ z < (row.length : Int)
      · obtain ⟨j, rfl⟩ : ∃ j : Nat, z = j := ⟨z.toNat, by omega⟩
        have hj : j < row.length := by omega
        obtain ⟨b3, off3, rfl, hb3, hc3⟩ := (HA.out.belowB HB.out HBe.out).at hj
        have S2 : Hid (keyL row (keys.take (k + 1)) = L ++ [row[j]?.getD 0]) := Lib.hid (by rw [ST.out, if_pos h0]; rfl)
        generalize row[j]?.getD 0 = y at *
        clear ST h0
        have t1 : decide ((0 : Int) ≤ (j : Int)) = true := decide_eq_true (by omega)
        have t2 : decide ((j : Int) < (row.length : Int)) = true := decide_eq_true (by omega)
        go_wp2_with (first | (at_builtin; refine wpList_append_own _ rfl _ _ 22 rfl B 2 i1 (.int .i64 0) 1 8 Tryd.underlying22 I'.out Z0'.out Z1'.out Z2'.out rfl (by decide) _ _ _ rfl (HO.out.alloc _) ⟨wr.heap.size, 0, none⟩ 1 1 [.int .i64 y] rfl rfl ?c1 ?c2 ?c3 ?c4 ?c5 ?_))
        case c1 => exact cell_one_new wr _ _
        case c2 => intro u hu; simp at hu; subst hu; rfl
        case c3 => unfold maxLen; omega
        case c4 => omega
        case c5 => simp; omega
        intro v' w2 hown' hgrow _
        have R := app_step hBr HBe.out HO.out hown' hgrow
        have O2 := Lib.hid R.1
        have B2 := Lib.hid R.2
        rw [← S2.out] at O2
        clear hown' hgrow R hc2 hc3
        go_wp2_with fail
        go_roundw
        case rel => exact ⟨k + 1, by omega, by go_num, O2, B2⟩
        case measure => simp [intOf]; omega
      · have S2 : Hid (keyL row (keys.take (k + 1)) = L) := Lib.hid (by rw [ST.out, if_neg h0])
        have HO2 := HO
        rw [← S2.out] at HO2
        clear ST
        by_cases hz : 0 ≤ z
        · have t1 : decide ((0 : Int) ≤ z) = true := decide_eq_true hz
          have t2 : decide (z < (row.length : Int)) = false := decide_eq_false (by omega)
          clear h0
          go_wp2_with fail
          go_roundw
          case rel => exact ⟨k + 1, by omega, by go_num, HO2, HBe⟩
          case measure => simp [intOf]; omega
        · have t1 : decide ((0 : Int) ≤ z) = false := decide_eq_false hz
          clear h0 hz
          go_wp2_with fail
          go_roundw
          case rel => exact ⟨k + 1, by omega, by go_num, HO2, HBe⟩
          case measure => simp [intOf]; omega
    · have hfin := HO.out
      rw [List.take_of_length_le (by omega)] at hfin
      obtain ⟨a9, c9, ha9, hrow⟩ := row_of_owns hfin
      rw [ha9] at hfin ⊢
      have hcap := owns_cap hfin
      have HRw := Lib.hid hrow
      have HC := Lib.hid hcap
      clear hfin hrow ha9 hcap
      go_wp2_with fail
      go_ret
      exact ⟨a9, c9, rfl, HRw.out, HC.out, by rw [HB.out]; exact HBe.out⟩

set_option maxRecDepth 100000 in
set_option maxHeartbeats 2000000 in
theorem keyB_calls (a b : Option Addr) (ca cb : Nat) (row keys : List Int) (w : World) (ha : Row w a row) (hb : Row w b keys) (hr : row.length ≤ 1000000) (hk : keys.length ≤ 1000000) (hmin : ¬ (keys.length : Int) ≤ (row.length : Int)) :
    Calls Tryd.prog 31 #[.slice a row.length ca, .slice b keys.length cb] w (KeyRet w (keyL row keys)) := by
  obtain ⟨i1, hi', hz0', hz1', hz2'⟩ := info_parts info2
  have I' := Lib.hid hi'
  have Z0' := Lib.hid hz0'
  have Z1' := Lib.hid hz1'
  have Z2' := Lib.hid hz2'
  clear hi' hz0' hz1' hz2'
  obtain ⟨B, hB⟩ : ∃ B, w.heap.size = B := ⟨_, rfl⟩
  have HB := Lib.hid hB
  have HA := Lib.hid ha
  have HK := Lib.hid hb
  clear hB ha hb
  go_enter Tryd.func31, Tryd.ntmps31
  go_wp2_with (first | (refine wpList_make_own _ rfl _ _ 22 rfl B 2 i1 (.int .i64 0) 1 Tryd.underlying22 I'.out Z0'.out Z1'.out .i64 .i64 _ row.length rfl rfl ?m0 ?m1 ?m2 ?m3 ?_))
  case m0 => first | rfl | (simp; omega) | omega
  case m1 => rw [Z2'.out]; omega
  case m2 => unfold maxLen; omega
  case m3 => rw [HB.out]; exact Nat.le_refl _
  intro w1 hown hgrow
  have O1 := Lib.hid hown
  have B1 : Hid (Below B w w1) := Lib.hid (grown_belowK hgrow (Nat.le_of_eq HB.out.symm))
  clear hown hgrow
  generalize Value.slice (some ⟨w.heap.size, 0, none⟩) 0 row.length = v1 at *
  go_wp2_with fail
  go_loopw [16, 5] (fun s v wr => ∃ k : Nat, k ≤ keys.length ∧ s = .int .i64 k ∧ Hid (wr.ownsRow B 2 1 v (keyL row (keys.take k)).length ((keyL row (keys.take k)).map (Value.int .i64))) ∧ Hid (Below B w wr)) (fun s _ _ => keys.length - (intOf s).toNat)
  case atStart => exact ⟨0, Nat.zero_le _, rfl, O1, B1⟩
  case round =>
    obtain ⟨k, hk', rfl, HO, HBe⟩ := hrel
    have hBr : B ≤ wr.heap.size := by have := HBe.out.size; rw [HB.out] at this; exact this
    have hll : (keyL row (keys.take k)).length ≤ 1000000 := by have := keyL_len row (keys.take k); simp at this; omega
    by_cases hlt : k < keys.length
    · obtain ⟨b2, off2, rfl, hb2, hc2⟩ := (HK.out.belowB HB.out HBe.out).at hlt
      have ST := Lib.hid (keyL_take (row := row) hlt)
      generalize keys[k]?.getD 0 = z at *
      obtain ⟨L, hL⟩ : ∃ L, keyL row (keys.take k) = L := ⟨_, rfl⟩
      rw [hL] at HO ST hll
      clear hL
      by_cases h0 : 0 ≤ z ∧ z < (row.length : Int)
      · obtain ⟨j, rfl⟩ : ∃ j : Nat, z = j := ⟨z.toNat, by omega⟩
        have hj : j < row.length := by omega
        obtain ⟨b3, off3, rfl, hb3, hc3⟩ := (HA.out.belowB HB.out HBe.out).at hj
        have S2 : Hid (keyL row (keys.take (k + 1)) = L ++ [row[j]?.getD 0]) := Lib.hid (by rw [ST.out, if_pos h0]; rfl)
        generalize row[j]?.getD 0 = y at *
        clear ST h0
        have t1 : decide ((0 : Int) ≤ (j : Int)) = true := decide_eq_true (by omega)
        have t2 : decide ((j : Int) < (row.length : Int)) = true := decide_eq_true (by omega)
        go_wp2_with (first | (at_builtin; refine wpList_append_own _ rfl _ _ 22 rfl B 2 i1 (.int .i64 0) 1 8 Tryd.underlying22 I'.out Z0'.out Z1'.out Z2'.out rfl (by decide) _ _ _ rfl (HO.out.alloc _) ⟨wr.heap.size, 0, none⟩ 1 1 [.int .i64 y] rfl rfl ?c1 ?c2 ?c3 ?c4 ?c5 ?_))
        case c1 => exact cell_one_new wr _ _
        case c2 => intro u hu; simp at hu; subst hu; rfl
        case c3 => unfold maxLen; omega
        case c4 => omega
        case c5 => simp; omega
        intro v' w2 hown' hgrow _
        have R := app_step hBr HBe.out HO.out hown' hgrow
        have O2 := Lib.hid R.1
        have B2 := Lib.hid R.2
        rw [← S2.out] at O2
        clear hown' hgrow R hc2 hc3
        go_wp2_with fail
        go_roundw
        case rel => exact ⟨k + 1, by omega, by go_num, O2, B2⟩
        case measure => simp [intOf]; omega
      · have S2 : Hid (keyL row (keys.take (k + 1)) = L) := Lib.hid (by rw [ST.out, if_neg h0])
        have HO2 := HO
        rw [← S2.out] at HO2
        clear ST
        by_cases hz : 0 ≤ z
        · have t1 : decide ((0 : Int) ≤ z) = true := decide_eq_true hz
          have t2 : decide (z < (row.length : Int)) = false := decide_eq_false (by omega)
          clear h0
          go_wp2_with fail
          go_roundw
          case rel => exact ⟨k + 1, by omega, by go_num, HO2, HBe⟩
          case measure => simp [intOf]; omega
        · have t1 : decide ((0 : Int) ≤ z) = false := decide_eq_false hz
          clear h0 hz
          go_wp2_with fail
          go_roundw
          case rel => exact ⟨k + 1, by omega, by go_num, HO2, HBe⟩
          case measure => simp [intOf]; omega
    · have hfin := HO.out
      rw [List.take_of_length_le (by omega)] at hfin
      obtain ⟨a9, c9, ha9, hrow⟩ := row_of_owns hfin
      rw [ha9] at hfin ⊢
      have hcap := owns_cap hfin
      have HRw := Lib.hid hrow
      have HC := Lib.hid hcap
      clear hfin hrow ha9 hcap
      go_wp2_with fail
      go_ret
      exact ⟨a9, c9, rfl, HRw.out, HC.out, by rw [HB.out]; exact HBe.out⟩
theorem key_calls (a b : Option Addr) (ca cb : Nat) (row keys : List Int) (w : World) (ha : Row w a row) (hb : Row w b keys) (hr : row.length ≤ 1000000) (hk : keys.length ≤ 1000000) :
    Calls Tryd.prog 31 #[.slice a row.length ca, .slice b keys.length cb] w (KeyRet w (keyL row keys)) := by
  by_cases h : (keys.length : Int) ≤ (row.length : Int)
  · exact keyA_calls a b ca cb row keys w ha hb hr hk h
  · exact keyB_calls a b ca cb row keys w ha hb hr hk h

set_option maxRecDepth 100000 in
set_option maxHeartbeats 2000000 in
theorem lawKey_calls (a b : Option Addr) (ca cb : Nat) (row keys : List Int) (w : World) (ha : Row w a row) (hb : Row w b keys) (hr : row.length ≤ 1000000) (hk : keys.length ≤ 1000000) :
    Calls Tryd.prog 34 #[.slice a row.length ca, .slice b keys.length cb] w (KeyRet w (keyL row keys)) := by
  obtain ⟨i1, hi', hz0', hz1', hz2'⟩ := info_parts info2
  have I' := Lib.hid hi'
  have Z0' := Lib.hid hz0'
  have Z1' := Lib.hid hz1'
  have Z2' := Lib.hid hz2'
  clear hi' hz0' hz1' hz2'
  obtain ⟨B, hB⟩ : ∃ B, w.heap.size = B := ⟨_, rfl⟩
  have HB := Lib.hid hB
  have HA := Lib.hid ha
  have HK := Lib.hid hb
  clear hB ha hb
  go_enter Tryd.func34, Tryd.ntmps34
  go_wp2_with fail
  have O1 : Hid ((w.alloc (.cells #[] 2)).ownsRow B 2 1 (.slice (some ⟨w.heap.size, 0, none⟩) 0 0) 0 []) := Lib.hid (World.ownsRow_lit (base := B) (e := 2) (size := 1) w #[] 0 (Nat.le_of_eq HB.out.symm) (by decide) rfl)
  have B1 := Lib.hid ((Below.refl B w).alloc (Nat.le_of_eq HB.out.symm) (.cells #[] 2))
  generalize World.alloc w _ = w1 at *
  generalize Value.slice (some ⟨w.heap.size, 0, none⟩) 0 0 = v1 at *
  go_loopw [11, 5] (fun s v wr => ∃ k : Nat, k ≤ keys.length ∧ s = .int .i64 k ∧ Hid (wr.ownsRow B 2 1 v (keyL row (keys.take k)).length ((keyL row (keys.take k)).map (Value.int .i64))) ∧ Hid (Below B w wr)) (fun s _ _ => keys.length - (intOf s).toNat)
  case atStart => exact ⟨0, Nat.zero_le _, rfl, O1, B1⟩
  case round =>
    obtain ⟨k, hk', rfl, HO, HBe⟩ := hrel
    have hBr : B ≤ wr.heap.size := by have := HBe.out.size; rw [HB.out] at this; exact this
    have hll : (keyL row (keys.take k)).length ≤ 1000000 := by have := keyL_len row (keys.take k); simp at this; omega
    by_cases hlt : k < keys.length
    · obtain ⟨b2, off2, rfl, hb2, hc2⟩ := (HK.out.belowB HB.out HBe.out).at hlt
      have ST := Lib.hid (keyL_take (row := row) hlt)
      generalize keys[k]?.getD 0 = z at *
      obtain ⟨L, hL⟩ : ∃ L, keyL row (keys.take k) = L := ⟨_, rfl⟩
      rw [hL] at HO ST hll
      clear hL
      by_cases h0 : 0 ≤ z ∧ z < (row.length : Int)
      · obtain ⟨j, rfl⟩ : ∃ j : Nat, z = j := ⟨z.toNat, by omega⟩
        have hj : j < row.length := by omega
        obtain ⟨b3, off3, rfl, hb3, hc3⟩ := (HA.out.belowB HB.out HBe.out).at hj
        have S2 : Hid (keyL row (keys.take (k + 1)) = L ++ [row[j]?.getD 0]) := Lib.hid (by rw [ST.out, if_pos h0]; rfl)
        generalize row[j]?.getD 0 = y at *
        clear ST h0
        have t1 : decide ((0 : Int) ≤ (j : Int)) = true := decide_eq_true (by omega)
        have t2 : decide ((j : Int) < (row.length : Int)) = true := decide_eq_true (by omega)
        go_wp2_with (first | (at_builtin; refine wpList_append_own _ rfl _ _ 22 rfl B 2 i1 (.int .i64 0) 1 8 Tryd.underlying22 I'.out Z0'.out Z1'.out Z2'.out rfl (by decide) _ _ _ rfl (HO.out.alloc _) ⟨wr.heap.size, 0, none⟩ 1 1 [.int .i64 y] rfl rfl ?c1 ?c2 ?c3 ?c4 ?c5 ?_))
        case c1 => exact cell_one_new wr _ _
        case c2 => intro u hu; simp at hu; subst hu; rfl
        case c3 => unfold maxLen; omega
        case c4 => omega
        case c5 => simp; omega
        intro v' w2 hown' hgrow _
        have R := app_step hBr HBe.out HO.out hown' hgrow
        have O2 := Lib.hid R.1
        have B2 := Lib.hid R.2
        rw [← S2.out] at O2
        clear hown' hgrow R hc2 hc3
        go_wp2_with fail
        go_roundw
        case rel => exact ⟨k + 1, by omega, by go_num, O2, B2⟩
        case measure => simp [intOf]; omega
      · have S2 : Hid (keyL row (keys.take (k + 1)) = L) := Lib.hid (by rw [ST.out, if_neg h0])
        have HO2 := HO
        rw [← S2.out] at HO2
        clear ST
        by_cases hz : 0 ≤ z
        · have t1 : decide ((0 : Int) ≤ z) = true := decide_eq_true hz
          have t2 : decide (z < (row.length : Int)) = false := decide_eq_false (by omega)
          clear h0
          go_wp2_with fail
          go_roundw
          case rel => exact ⟨k + 1, by omega, by go_num, HO2, HBe⟩
          case measure => simp [intOf]; omega
        · have t1 : decide ((0 : Int) ≤ z) = false := decide_eq_false hz
          clear h0 hz
          go_wp2_with fail
          go_roundw
          case rel => exact ⟨k + 1, by omega, by go_num, HO2, HBe⟩
          case measure => simp [intOf]; omega
    · have hfin := HO.out
      rw [List.take_of_length_le (by omega)] at hfin
      obtain ⟨a9, c9, ha9, hrow⟩ := row_of_owns hfin
      rw [ha9] at hfin ⊢
      have hcap := owns_cap hfin
      have HRw := Lib.hid hrow
      have HC := Lib.hid hcap
      clear hfin hrow ha9 hcap
      go_wp2_with fail
      go_ret
      exact ⟨a9, c9, rfl, HRw.out, HC.out, by rw [HB.out]; exact HBe.out⟩
end Go.Proofs.YtcecndjkfdaaaaaDoor
