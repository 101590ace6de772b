/- The head of the statements of layer 7; what the walks are told. -/
import Derived.Test.YtenlhojdpjedkaaIx8
namespace Go.Proofs.Ytenlhojdpjedkaa
open Go.RowKit
set_option linter.unusedVariables false
set_option linter.unusedSimpArgs false

def NestArgs (w : World) (a : Option Addr) (A : List RV) : Prop := RRow w a A ∧ A.length ≤ maxLen ∧ ∀ x ∈ A, x.2.1.length ≤ maxLen
theorem width5 (x : Int) : ∃ wd : Nat, wd ≤ 4 ∧ wrap64 ((IntKind.u64.wrap x).tmod 5) = (wd : Int) := by
  have h1 : 0 ≤ IntKind.u64.wrap x := by simp [IntKind.wrap, IntKind.bits, IntKind.signed]; omega
  have h2 : (IntKind.u64.wrap x).tmod 5 = IntKind.u64.wrap x % 5 := Int.tmod_eq_emod_of_nonneg h1
  rw [h2]
  obtain ⟨y, hy⟩ : ∃ y, IntKind.u64.wrap x % 5 = y := ⟨_, rfl⟩
  have h3 : 0 ≤ y ∧ y < 5 := by omega
  rw [hy]
  exact ⟨y.toNat, by omega, by unfold wrap64; omega⟩
/-- A relation of at most n rows. -/
def SB (n : Nat) (w : World) (p : Option Addr) (wd : Nat) (xs : List (List Int)) : Prop := Seg w p wd xs ∧ xs.length ≤ n
theorem SB.below {n : Nat} {w w' : World} {p : Option Addr} {wd : Nat} {xs : List (List Int)} (h : SB n w p wd xs) (hb : Below w.heap.size w w') : SB n w' p wd xs := ⟨h.1.below hb, h.2⟩
theorem SB.belowB {n : Nat} {w w' : World} {B : Nat} {p : Option Addr} {wd : Nat} {xs : List (List Int)} (h : SB n w p wd xs) (hB : w.heap.size = B) (hb : Below B w w') : SB n w' p wd xs := by subst hB; exact h.below hb
def BRet (n : Nat) (w : World) (wd : Nat) (xs : List (List Int)) (e : Ending) (w' : World) : Prop := ∃ p, e = .returned (.pointer p) ∧ SB n w' p wd xs ∧ Below w.heap.size w w'
theorem few_w {w W : World} {B : Nat} {a : Option Addr} {A : List RV} (cap : Nat) (h : NestArgs w a A) (hB : w.heap.size = B) (hb : Below B w W) : Calls Try.prog 13 #[.slice a A.length cap] W fun e w' => e = .returned (.bool (fewB A)) ∧ W = w' :=
  few_calls a cap A W (h.1.belowB hB hb) h.2.1 h.2.2
theorem make_w {w W : World} {B : Nat} {a : Option Addr} {A : List RV} (cap wd : Nat) (h : NestArgs w a A) (hB : w.heap.size = B) (hb : Below B w W) (hf : A.length ≤ 60 ∧ ∀ x ∈ A, x.2.1.length ≤ 8) (hwd : wd ≤ 1000) : Calls Try.prog 14 #[.int .i64 wd, .slice a A.length cap] W (BRet 60 W wd (relOf wd (A.map (·.2.1)))) :=
  (make_calls wd a cap A W (h.1.belowB hB hb) hwd (by omega) (fun x hx => by have := hf.2 x hx; omega)).mono fun e w' ⟨p, h1, h2, h3⟩ => ⟨p, h1, ⟨h2, Nat.le_trans (rel_len _ _) (by simp; exact hf.1)⟩, h3⟩
theorem row1 {w : World} {b : Nat} {x : Int} (h0 : w.cell? ⟨b, 0, none⟩ = some (.int .i64 x)) (hb : b < w.heap.size) : Row w (some ⟨b, 0, none⟩) [x] :=
  .inr ⟨b, 0, rfl, hb, fun i hi => by match i, hi with | 0, _ => exact h0⟩
theorem row1_new (w : World) (x : Int) (t : TypeId) : Row (w.alloc (.cells #[.int .i64 x] t)) (some ⟨w.heap.size, 0, none⟩) [x] := row1 (by go_simp) (by simp)
theorem seg_none (w : World) : Seg w none 0 [] := ⟨List.Pairwise.nil, (fun r hr => by cases hr), .inl ⟨rfl, rfl, rfl⟩⟩

theorem head7_rel : relOf ((2 : Nat) : Int) [[1, 5], [2, 5], [3, 6]] = [[1, 5], [2, 5], [3, 6]] := by decide
theorem head7_keys : ([[1, 5], [2, 5], [3, 6]] : List (List Int)).map (fun r => keyL r [1]) = [[5], [5], [6]] := by decide
theorem head7_a : ints (rowsOf [[5], [5], [6]] [5]) = [0, 1] := by decide
theorem head7_b : ints (rowsOf [[5], [5], [6]] [7]) = [] := by decide
theorem head7_d : dst [[5], [5], [6]] = 2 := by decide
set_option maxRecDepth 100000 in
set_option maxHeartbeats 2000000 in
theorem head7_calls (w : World) : Calls Try.prog 12 #[] w (TrueRet5 w) := by
  obtain ⟨B, hB⟩ : ∃ B, w.heap.size = B := ⟨_, rfl⟩
  have HB := Lib.hid hB
  go_enter Try.func12, Try.ntmps12
  go_wp2_with fail
  have b4 : Below B w ((((w.alloc (.cells #[.int .i64 1, .int .i64 5] 2)).alloc (.cells #[.int .i64 2, .int .i64 5] 2)).alloc (.cells #[.int .i64 3, .int .i64 6] 2)).alloc (.cells #[.slice (some ⟨B, 0, none⟩) 2 2, .slice (some ⟨B + 1, 0, none⟩) 2 2, .slice (some ⟨B + 1 + 1, 0, none⟩) 2 2] 24)) :=
    ((((Below.refl _ _).alloc (by omega) _).alloc (by simp; omega) _).alloc (by simp; omega) _).alloc (by simp; omega) _
  have R4 : RRow ((((w.alloc (.cells #[.int .i64 1, .int .i64 5] 2)).alloc (.cells #[.int .i64 2, .int .i64 5] 2)).alloc (.cells #[.int .i64 3, .int .i64 6] 2)).alloc (.cells #[.slice (some ⟨B, 0, none⟩) 2 2, .slice (some ⟨B + 1, 0, none⟩) 2 2, .slice (some ⟨B + 1 + 1, 0, none⟩) 2 2] 24)) (some ⟨B + 1 + 1 + 1, 0, none⟩) [(some ⟨B, 0, none⟩, [1, 5], 2), (some ⟨B + 1, 0, none⟩, [2, 5], 2), (some ⟨B + 1 + 1, 0, none⟩, [3, 6], 2)] := by
    refine ⟨.inr ⟨B + 1 + 1 + 1, 0, rfl, by simp; omega, fun i hi => ?_⟩, fun x hx => ?_⟩
    · match i, hi with
      | 0, _ => subst hB; go_simp; rfl
      | 1, _ => subst hB; go_simp; rfl
      | 2, _ => subst hB; go_simp; rfl
    · simp only [List.mem_cons, List.not_mem_nil, or_false] at hx
      rcases hx with rfl | rfl | rfl
      · exact ⟨row2 (by subst hB; go_simp) (by subst hB; go_simp) (by simp; omega), by simp⟩
      · exact ⟨row2 (by subst hB; go_simp) (by subst hB; go_simp) (by simp; omega), by simp⟩
      · exact ⟨row2 (by subst hB; go_simp) (by subst hB; go_simp) (by simp; omega), by simp⟩
  have R4' := Lib.hid R4
  have b4' := Lib.hid b4
  clear R4 b4 hB
  generalize World.alloc (World.alloc (World.alloc (World.alloc _ _) _) _) _ = W at *
  refine (make_calls 2 _ 3 _ W R4'.out (by omega) (by simp) (by simp)).mono ?_
  rintro e w1 ⟨p1, rfl, hs1, hb1⟩
  have hs1' : Seg w1 p1 2 [[1, 5], [2, 5], [3, 6]] := by
    have := hs1
    simp only [List.map_cons, List.map_nil] at this
    rw [head7_rel] at this; exact this
  have S1 := Lib.hid hs1'
  have B1 : Hid (Below B w w1) := Lib.hid (b4'.out.trans (hb1.mono (by have := b4'.out.size; rw [HB.out] at this; exact this)))
  clear hs1 hs1' hb1 R4' b4'
  go_wp2_with fail
  have S2 : Hid (Seg (w1.alloc (.cells #[.int .i64 1] 3)) p1 2 [[1, 5], [2, 5], [3, 6]]) := Lib.hid (S1.out.below ((Below.refl _ _).alloc (Nat.le_refl _) _))
  have Q2 := Lib.hid (row1_new w1 1 3)
  have hB1 : Hid (B ≤ w1.heap.size) := Lib.hid (by have := B1.out.size; rw [HB.out] at this; exact this)
  have B2 : Hid (Below B w (w1.alloc (.cells #[.int .i64 1] 3))) := Lib.hid (B1.out.alloc hB1.out _)
  generalize World.alloc _ _ = W2 at *
  generalize w1.heap.size = n1 at *
  have cb := build_calls S2.out _ 1 [1] Q2.out (by simp) (by omega) (by simp)
  rw [head7_keys] at cb
  refine cb.mono ?_
  rintro e w3 ⟨g, rfl, hx3, hb3⟩
  have X3 := Lib.hid hx3
  have B3 : Hid (Below B w w3) := Lib.hid (B2.out.trans (hb3.mono (by have := B2.out.size; rw [HB.out] at this; exact this)))
  clear hx3 hb3 S1 S2 B2 Q2 cb
  go_wp2_with fail
  have X4 := Lib.hid (X3.out.below ((Below.refl _ _).alloc (Nat.le_refl _) (.cells #[.int .i64 5] 2)))
  have Q4 := Lib.hid (row1_new w3 5 2)
  have B4 : Hid (Below B w (w3.alloc (.cells #[.int .i64 5] 2))) := Lib.hid (B3.out.alloc (by have := B3.out.size; rw [HB.out] at this; exact this) _)
  generalize World.alloc _ _ = W4 at *
  generalize w3.heap.size = n3 at *
  have cp := ix_probe X4.out _ 1 [5] Q4.out (by simp)
  rw [head7_a] at cp
  refine cp.mono ?_
  rintro e w5 ⟨a5, c5, rfl, hr5, hb5⟩
  obtain ⟨b5, o5, rfl, _, hc0⟩ := hr5.at (k := 0) (by simp)
  obtain ⟨b5', o5', e5, _, hc1⟩ := hr5.at (k := 1) (by simp)
  cases e5
  have hc0' : w5.cell? ⟨b5, o5, none⟩ = some (.int .i64 0) := hc0
  have hc1' : w5.cell? ⟨b5, o5 + 1, none⟩ = some (.int .i64 1) := hc1
  have X5 := Lib.hid (X4.out.below hb5)
  have B5 : Hid (Below B w w5) := Lib.hid (B4.out.trans (hb5.mono (by have := B4.out.size; rw [HB.out] at this; exact this)))
  have cl := ix_len X5.out
  rw [head7_d] at cl
  clear hr5 hb5 hc0 hc1 X3 X4 B3 B4 Q4 cp
  go_wp2_with fail
  refine cl.mono ?_
  rintro e w' ⟨rfl, rfl⟩
  clear hc0' hc1' cl
  go_wp2_with fail
  have X6 := Lib.hid (X5.out.below ((Below.refl _ _).alloc (Nat.le_refl _) (.cells #[.int .i64 7] 2)))
  have Q6 := Lib.hid (row1_new w5 7 2)
  have B6 : Hid (Below B w (w5.alloc (.cells #[.int .i64 7] 2))) := Lib.hid (B5.out.alloc (by have := B5.out.size; rw [HB.out] at this; exact this) _)
  generalize World.alloc _ _ = W6 at *
  generalize w5.heap.size = n5 at *
  have cp := ix_probe X6.out _ 1 [7] Q6.out (by simp)
  rw [head7_b] at cp
  refine cp.mono ?_
  rintro e w7 ⟨a7, c7, rfl, hr7, hb7⟩
  have B7 : Hid (Below B w w7) := Lib.hid (B6.out.trans (hb7.mono (by have := B6.out.size; rw [HB.out] at this; exact this)))
  clear hr7 hb7 cp
  go_wp2_with fail
  go_ret
  exact ⟨rfl, by rw [HB.out]; exact B7.out⟩
end Go.Proofs.Ytenlhojdpjedkaa
