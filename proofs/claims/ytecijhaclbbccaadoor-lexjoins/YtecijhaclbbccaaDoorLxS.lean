/- LexJoins, walked: the long texts, and a first text with a fault. -/
import Derived.Test.YtecijhaclbbccaaDoorLxR
import Derived.Test.YtecijhaclbbccaaDoorLxL
namespace Go.Proofs.YtecijhaclbbccaaDoor
open Go.RowKit
set_option linter.unusedVariables false
set_option linter.unusedSimpArgs false

theorem AllRet.any {w : World} {r : Rs} {e : Ending} {w' : World} (h : AllRet w r e w') : ∃ a n c v, e = .returned (.tuple #[.slice a n c, v]) ∧ Below w.heap.size w w' := by
  obtain ⟨hb, h⟩ := h
  cases r with
  | ok l => obtain ⟨a, c, rfl, _⟩ := h; exact ⟨a, _, c, _, rfl, hb⟩
  | no t p => obtain ⟨b, x, rfl, _⟩ := h; exact ⟨none, 0, 0, _, rfl, hb⟩
theorem bs_join (a b : ByteArray) : bs (a ++ ⟨#[10]⟩ ++ b) = bs a ++ 10 :: bs b := by simp [bs]
set_option maxRecDepth 100000 in
set_option maxHeartbeats 2000000 in
theorem lexJoins_long (a b : ByteArray) (w : World) (ht : SignTab w) (h : 200 < a.size ∨ 200 < b.size) : Calls Tryd.prog 7 #[.string a, .string b] w (TrueRet w) := by
  have ch := head12_calls w ht
  clear ht
  by_cases ha : 200 < a.size
  · have t1 : decide ((200 : Int) < (a.size : Int)) = true := decide_eq_true (by omega)
    clear h
    go_enter Tryd.func7, Tryd.ntmps7
    go_wp2_with fail
    refine ch.mono ?_
    rintro e w1 ⟨rfl, hb1⟩
    have B1 := Lib.hid hb1
    clear hb1 ch
    go_wp2_with fail
    go_ret
    exact ⟨rfl, B1.out⟩
  · have t1 : decide ((200 : Int) < (a.size : Int)) = false := decide_eq_false (by omega)
    have hb : 200 < b.size := by omega
    have t2 : decide ((200 : Int) < (b.size : Int)) = true := decide_eq_true (by omega)
    clear h
    go_enter Tryd.func7, Tryd.ntmps7
    go_wp2_with fail
    refine ch.mono ?_
    rintro e w1 ⟨rfl, hb1⟩
    have B1 := Lib.hid hb1
    clear hb1 ch
    go_wp2_with fail
    go_ret
    exact ⟨rfl, B1.out⟩
set_option maxRecDepth 100000 in
set_option maxHeartbeats 400000 in
theorem lexJoins_no (a b : ByteArray) (w : World) (ht : SignTab w) (ha : a.size ≤ 200) (hb : b.size ≤ 200) {tg : Int} {pl : Nat} (hA : allM (bs a) = .no tg pl) : Calls Tryd.prog 7 #[.string a, .string b] w (TrueRet w) := by
  have ch := head12_calls w ht
  have HT := Lib.hid ht
  clear ht
  obtain ⟨B, hB⟩ : ∃ B, w.heap.size = B := ⟨_, rfl⟩
  have HB := Lib.hid hB
  clear hB
  have t1 : decide ((200 : Int) < (a.size : Int)) = false := decide_eq_false (by omega)
  have t2 : decide ((200 : Int) < (b.size : Int)) = false := decide_eq_false (by omega)
  have hj : (a ++ ⟨#[10]⟩ : ByteArray).size ≤ 201 := by rw [ByteArray.size_append]; show a.size + 1 ≤ 201; omega
  have hjj : (a ++ ⟨#[10]⟩ ++ b : ByteArray).size ≤ 401 := by rw [ByteArray.size_append]; omega
  have HA := Lib.hid hA
  clear hA
  go_enter Tryd.func7, Tryd.ntmps7
  go_wp2_with fail
  refine ch.mono ?_
  rintro e w1 ⟨rfl, hb1⟩
  rw [HB.out] at hb1
  have B1 := Lib.hid hb1
  have s1 : B ≤ w1.heap.size := by have := hb1.size; rw [HB.out] at this; exact this
  clear hb1 ch
  go_wp2_with fail
  refine (all_calls a w1 (by omega) (HT.out.below (by rw [HB.out]; exact B1.out))).mono ?_
  intro e w2 hr2
  rw [HA.out] at hr2
  obtain ⟨hb2, b9, txt9, rfl, hle9, hf9⟩ := hr2
  have B2 : Hid (Below B w w2) := Lib.hid (B1.out.trans (hb2.mono s1))
  have s2 : B ≤ w2.heap.size := by have := hb2.size; omega
  clear hb2 hf9 hle9
  go_wp2_with fail
  have cb := all_calls b w2 (by omega) (HT.out.below (by rw [HB.out]; exact B2.out))
  generalize allM (bs b) = R2 at cb
  refine cb.mono ?_
  intro e w3 hr3
  obtain ⟨a3, n3, c3, v3, rfl, hb3⟩ := hr3.any
  have B3 : Hid (Below B w w3) := Lib.hid (B2.out.trans (hb3.mono s2))
  have s3 : B ≤ w3.heap.size := by have := hb3.size; omega
  clear hr3 hb3 cb
  go_wp2_with fail
  have cj := all_calls (a ++ ⟨#[10]⟩ ++ b) w3 (by omega) (HT.out.below (by rw [HB.out]; exact B3.out))
  generalize allM (bs (a ++ ⟨#[10]⟩ ++ b)) = R at cj
  refine cj.mono ?_
  intro e w4 hr4
  obtain ⟨a4, n4, c4, v4, rfl, hb4⟩ := hr4.any
  have B4 : Hid (Below B w w4) := Lib.hid (B3.out.trans (hb4.mono s3))
  clear hr4 hb4 cj
  go_wp2_with fail
  go_ret
  exact ⟨rfl, by rw [HB.out]; exact B4.out⟩
end Go.Proofs.YtecijhaclbbccaaDoor
