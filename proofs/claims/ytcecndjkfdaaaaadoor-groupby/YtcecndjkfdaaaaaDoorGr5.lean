/- The head of the statements of layer 9. -/
import Derived.Test.YtcecndjkfdaaaaaDoorGr3
import Derived.Test.YtcecndjkfdaaaaaDoorGr4
import Derived.Test.YtcecndjkfdaaaaaDoorSg22
namespace Go.Proofs.YtcecndjkfdaaaaaDoor
open Go.RowKit
set_option linter.unusedVariables false
set_option linter.unusedSimpArgs false

theorem head9_r : relOf ((2 : Nat) : Int) [[1, 5], [1, 7], [2, 3]] = [[1, 5], [1, 7], [2, 3]] := by decide
theorem head9_m : madeTo (([[1, 5], [1, 7], [2, 3]] : List (List Int)).map fun r => keyL r [0]) (colOf [[1, 5], [1, 7], [2, 3]] 1) 2 3 = some [[1, 12], [2, 3]] := by decide
theorem head9_v : (validP 2 [0]).length + 1 = 2 := by decide
theorem head9_o : relOf ((2 : Nat) : Int) [[1, 12], [2, 3]] = [[1, 12], [2, 3]] := by decide
/-- Literals of rows of two numbers. -/
theorem lit22 {w : World} {B : Nat} (hB : w.heap.size = B) (x1 y1 x2 y2 : Int) :
    RRow (((w.alloc (.cells #[.int .i64 x1, .int .i64 y1] 2)).alloc (.cells #[.int .i64 x2, .int .i64 y2] 2)).alloc (.cells #[.slice (some ⟨B, 0, none⟩) 2 2, .slice (some ⟨B + 1, 0, none⟩) 2 2] 22)) (some ⟨B + 1 + 1, 0, none⟩) [(some ⟨B, 0, none⟩, [x1, y1], 2), (some ⟨B + 1, 0, none⟩, [x2, y2], 2)] ∧
    Below B w (((w.alloc (.cells #[.int .i64 x1, .int .i64 y1] 2)).alloc (.cells #[.int .i64 x2, .int .i64 y2] 2)).alloc (.cells #[.slice (some ⟨B, 0, none⟩) 2 2, .slice (some ⟨B + 1, 0, none⟩) 2 2] 22)) := by
  refine ⟨⟨.inr ⟨B + 1 + 1, 0, rfl, by simp; omega, fun i hi => ?_⟩, fun x hx => ?_⟩, (((Below.refl _ _).alloc (by omega) _).alloc (by simp; omega) _).alloc (by simp; omega) _⟩
  · match i, hi with
    | 0, _ => subst hB; go_simp; rfl
    | 1, _ => subst hB; go_simp; rfl
  · simp only [List.mem_cons, List.not_mem_nil, or_false] at hx
    rcases hx with rfl | rfl
    · exact ⟨row2 (by subst hB; go_simp) (by subst hB; go_simp) (by simp; omega), by simp⟩
    · exact ⟨row2 (by subst hB; go_simp) (by subst hB; go_simp) (by simp; omega), by simp⟩
theorem lit32 {w : World} {B : Nat} (hB : w.heap.size = B) (x1 y1 x2 y2 x3 y3 : Int) :
    RRow ((((w.alloc (.cells #[.int .i64 x1, .int .i64 y1] 2)).alloc (.cells #[.int .i64 x2, .int .i64 y2] 2)).alloc (.cells #[.int .i64 x3, .int .i64 y3] 2)).alloc (.cells #[.slice (some ⟨B, 0, none⟩) 2 2, .slice (some ⟨B + 1, 0, none⟩) 2 2, .slice (some ⟨B + 1 + 1, 0, none⟩) 2 2] 22)) (some ⟨B + 1 + 1 + 1, 0, none⟩) [(some ⟨B, 0, none⟩, [x1, y1], 2), (some ⟨B + 1, 0, none⟩, [x2, y2], 2), (some ⟨B + 1 + 1, 0, none⟩, [x3, y3], 2)] ∧
    Below B w ((((w.alloc (.cells #[.int .i64 x1, .int .i64 y1] 2)).alloc (.cells #[.int .i64 x2, .int .i64 y2] 2)).alloc (.cells #[.int .i64 x3, .int .i64 y3] 2)).alloc (.cells #[.slice (some ⟨B, 0, none⟩) 2 2, .slice (some ⟨B + 1, 0, none⟩) 2 2, .slice (some ⟨B + 1 + 1, 0, none⟩) 2 2] 22)) := by
  refine ⟨⟨.inr ⟨B + 1 + 1 + 1, 0, rfl, by simp; omega, fun i hi => ?_⟩, fun x hx => ?_⟩, ((((Below.refl _ _).alloc (by omega) _).alloc (by simp; omega) _).alloc (by simp; omega) _).alloc (by simp; omega) _⟩
  · match i, hi with
    | 0, _ => subst hB; go_simp; rfl
    | 1, _ => subst hB; go_simp; rfl
    | 2, _ => subst hB; go_simp; rfl
  · simp only [List.mem_cons, List.not_mem_nil, or_false] at hx
    rcases hx with rfl | rfl | rfl
    · exact ⟨row2 (by subst hB; go_simp) (by subst hB; go_simp) (by simp; omega), by simp⟩
    · exact ⟨row2 (by subst hB; go_simp) (by subst hB; go_simp) (by simp; omega), by simp⟩
    · exact ⟨row2 (by subst hB; go_simp) (by subst hB; go_simp) (by simp; omega), by simp⟩
theorem inR_lit {zs : List Int} (h : zs.all (fun z => decide (-9223372036854775808 ≤ z ∧ z ≤ 9223372036854775807)) = true) : InR zs := fun z hz => by
  have := List.all_eq_true.1 h z hz
  simpa using this
set_option maxRecDepth 100000 in
set_option maxHeartbeats 2000000 in
theorem head9_calls (w : World) (hw : Words w) : Calls Tryd.prog 6 #[] w (TrueRet5 w) := by
  obtain ⟨B, hB⟩ : ∃ B, w.heap.size = B := ⟨_, rfl⟩
  have HB := Lib.hid hB
  have HL := Lib.hid (lit32 hB 1 5 1 7 2 3)
  have HW := Lib.hid hw
  clear hw
  go_enter Tryd.func6, Tryd.ntmps6
  go_wp2_with fail
  clear hB
  generalize World.alloc (World.alloc (World.alloc (World.alloc _ _) _) _) _ = W at *
  refine (make_calls 2 _ 3 _ W HL.out.1 (by omega) (by simp) (by simp)).mono ?_
  rintro e w1 ⟨p1, rfl, hs1, hb1⟩
  have hs1' : Seg w1 p1 2 [[1, 5], [1, 7], [2, 3]] := by
    have := hs1
    simp only [List.map_cons, List.map_nil] at this
    rw [head9_r] at this; exact this
  have S1 := Lib.hid hs1'
  have B1 : Hid (Below B w w1) := Lib.hid (HL.out.2.trans (hb1.mono (by have := HL.out.2.size; rw [HB.out] at this; exact this)))
  clear hs1 hs1' hb1 HL
  go_wp2_with fail
  have Q1 := Lib.hid (row1_new w1 0 3)
  have BA : Below w1.heap.size w1 (w1.alloc (.cells #[.int .i64 0] 3)) := (Below.refl _ _).alloc (Nat.le_refl _) _
  have S2 := Lib.hid (S1.out.below BA)
  have B2 : Hid (Below B w (w1.alloc (.cells #[.int .i64 0] 3))) := Lib.hid (B1.out.trans (BA.mono (by have := B1.out.size; rw [HB.out] at this; exact this)))
  clear BA S1 B1
  generalize World.alloc w1 _ = W2 at *
  have cb := by_calls S2.out _ 1 [0] Q1.out (by simp) (inR_lit (by decide)) (by omega) (by simp) 2 1 (colOf [[1, 5], [1, 7], [2, 3]] 1) (by simp [colOf]) (inR_lit (by decide)) (elements_col S2.out 2 (by omega) 1 (by omega) (by omega) (by simp))
  rw [show ([[1, 5], [1, 7], [2, 3]] : List (List Int)).length = 3 from rfl, head9_m, head9_v] at cb
  refine cb.mono ?_
  rintro e w3 (⟨h, _⟩ | ⟨L, p3, hL, rfl, hs3, hb3⟩)
  · cases h
  cases hL
  rw [head9_o] at hs3
  have S3 := Lib.hid hs3
  have B3 : Hid (Below B w w3) := Lib.hid (B2.out.trans (hb3.mono (by have := B2.out.size; rw [HB.out] at this; exact this)))
  clear cb hs3 hb3 B2 S2 Q1
  obtain ⟨D, hD⟩ : ∃ D, w3.heap.size = D := ⟨_, rfl⟩
  have HD := Lib.hid hD
  have HL2 := Lib.hid (lit22 hD 1 12 2 3)
  go_wp2_with fail
  clear hD
  generalize World.alloc (World.alloc (World.alloc w3 _) _) _ = W4 at *
  have ci := is_calls (S3.out.belowB HD.out HL2.out.2) _ 2 _ HL2.out.1 (by omega) (by simp) (by simp)
  have B4 : Hid (Below B w W4) := Lib.hid (B3.out.trans (HL2.out.2.mono (by have := B3.out.size; rw [HB.out, HD.out] at this; exact this)))
  clear HL2 B3
  refine ci.mono ?_
  rintro e w5 ⟨rfl, hb5⟩
  have B5 : Hid (Below B w w5) := Lib.hid (B4.out.trans (hb5.mono (by have := B4.out.size; rw [HB.out] at this; exact this)))
  have co := of_calls ⟨#[109, 97, 120]⟩ w5 (HW.out.below (by rw [HB.out]; exact B5.out))
  rw [show ofW ⟨#[109, 97, 120]⟩ = 4 by decide +kernel] at co
  clear hb5 ci B4
  go_wp2_with fail
  refine co.mono ?_
  rintro e w6 ⟨rfl, rfl⟩
  clear co
  go_wp2_with fail
  go_ret
  exact ⟨rfl, by rw [HB.out]; exact B5.out⟩
end Go.Proofs.YtcecndjkfdaaaaaDoor
