/- The statements' own head. -/
import Derived.Test.YtfpocoaddmgakaaUnq
import Derived.Test.YtfpocoaddmgakaaIs
namespace Go.Proofs.Ytfpocoaddmgakaa
open Go.RowKit
set_option linter.unusedVariables false
set_option linter.unusedSimpArgs false

theorem row_lit (w : World) (zs : List Int) : Row (w.alloc (.cells (ints zs).toArray 3)) (some ⟨w.heap.size, 0, none⟩) zs := by
  refine .inr ⟨_, 0, rfl, by simp, fun i hi => ?_⟩
  rw [cell_of_row _ _ _ _ 3 (0, 0) (heap_alloc_new w _)]
  simp [ints, hi]
theorem rrow_lit (w : World) (K : List RV) (h : ∀ x ∈ K, Row w x.1 x.2.1 ∧ x.2.1.length ≤ x.2.2) : RRow (w.alloc (.cells (K.map encV).toArray 22)) (some ⟨w.heap.size, 0, none⟩) K := by
  refine ⟨.inr ⟨_, 0, rfl, by simp, fun i hi => ?_⟩, fun x hx => ⟨(h x hx).1.alloc _, (h x hx).2⟩⟩
  rw [cell_of_row _ _ _ _ 22 (0, 0) (heap_alloc_new w _)]
  have := map_at hi
  simpa using this
theorem rowsOf_lit (K : List RV) (T : List (List Int)) (h : K.map (·.2.1) = T) : rowsOf K = T := h

def E4 : Nat → List Int := fun i => if i = 0 then [1] else if i = 1 then [0] else if i = 2 then [0] else []
def H4 : Nat → Nat := fun i => if i = 0 then 0 else if i = 1 then 0 else if i = 2 then 1 else 2
theorem comps4 : CompsOf 4 E4 [[0, 1], [2], [3]] := by
  have c0 : ∀ a b, (a = 0 ∨ a = 1) → Edge 4 E4 a b → (b = 0 ∨ b = 1) := by
    intro a b ha ⟨h1, h2, h3⟩
    rcases ha with rfl | rfl <;> simp [E4] at h3 <;> omega
  have c3 : ∀ a b, a = 3 → Edge 4 E4 a b → b = 3 := by
    intro a b ha ⟨h1, h2, h3⟩
    subst ha
    simp [E4] at h3
  have c2 : ∀ a b, a ≠ 2 → Edge 4 E4 a b → b ≠ 2 := by
    intro a b ha ⟨h1, h2, h3⟩ e
    subst e
    have : a = 0 ∨ a = 1 ∨ a = 3 := by omega
    rcases this with rfl | rfl | rfl <;> simp [E4] at h3
  have e01 : RT (Edge 4 E4) 0 1 := RT.one ⟨by omega, by omega, by simp [E4]⟩
  have e10 : RT (Edge 4 E4) 1 0 := RT.one ⟨by omega, by omega, by simp [E4]⟩
  have n2 : ∀ a, a ≠ 2 → ¬ RT (Edge 4 E4) a 2 := fun a ha h => (h.keeps (P := fun x => x ≠ 2) c2 ha) rfl
  have n3 : ∀ b, b ≠ 3 → ¬ RT (Edge 4 E4) 3 b := fun b hb h => hb (h.keeps (P := fun x => x = 3) c3 rfl)
  refine ⟨3, H4, [0, 1, 2], ⟨fun v hv => ?_, fun j hj => ?_, fun v hv j hj => ?_, fun u v hu hv => ?_, by omega⟩, ?_, ?_, by decide⟩
  · unfold H4; split <;> (try split) <;> (try split) <;> omega
  · have : j = 0 ∨ j = 1 ∨ j = 2 := by omega
    rcases this with rfl | rfl | rfl
    · exact ⟨0, by omega, rfl⟩
    · exact ⟨2, by omega, rfl⟩
    · exact ⟨3, by omega, rfl⟩
  · have : v = 0 ∨ v = 1 ∨ v = 2 ∨ v = 3 := by omega
    rcases this with rfl | rfl | rfl | rfl
    · simp [H4] at hj
    · simp [H4] at hj
    · have : j = 0 := by simp [H4] at hj; omega
      subst this; exact ⟨0, by omega, rfl⟩
    · have : j = 0 ∨ j = 1 := by simp [H4] at hj; omega
      rcases this with rfl | rfl
      · exact ⟨0, by omega, rfl⟩
      · exact ⟨2, by omega, rfl⟩
  · have hu' : u = 0 ∨ u = 1 ∨ u = 2 ∨ u = 3 := by omega
    have hv' : v = 0 ∨ v = 1 ∨ v = 2 ∨ v = 3 := by omega
    by_cases e : u = v
    · subst e; exact ⟨fun _ => ⟨.refl _, .refl _⟩, fun _ => rfl⟩
    · rcases hu' with rfl | rfl | rfl | rfl <;> rcases hv' with rfl | rfl | rfl | rfl <;>
        first
          | exact absurd rfl e
          | exact ⟨fun _ => ⟨e01, e10⟩, fun _ => rfl⟩
          | exact ⟨fun _ => ⟨e10, e01⟩, fun _ => rfl⟩
          | exact ⟨fun h => absurd h (by decide), fun h => absurd h.1 (n2 _ (by omega))⟩
          | exact ⟨fun h => absurd h (by decide), fun h => absurd h.2 (n2 _ (by omega))⟩
          | exact ⟨fun h => absurd h (by decide), fun h => absurd h.1 (n3 _ (by omega))⟩
          | exact ⟨fun h => absurd h (by decide), fun h => absurd h.2 (n3 _ (by omega))⟩
  all_goals
    have hes : betwN 4 E4 H4 4 = [(1, 0)] := by decide
    rw [hes]
  · have g0 : Greedy 3 [(1, 0)] ([] ++ [0]) := .snoc .nil ⟨by omega, by simp, fun b hb => by simp at hb⟩ (fun a _ => Nat.zero_le _)
    have g1 : Greedy 3 [(1, 0)] (([] ++ [0]) ++ [1]) := .snoc g0 ⟨by omega, by simp, fun b hb => by simp at hb; simp [hb]⟩ (fun a ha => by
      have := ha.2.1; simp at this; omega)
    exact .snoc g1 ⟨by omega, by simp, fun b hb => by simp at hb⟩ (fun a ha => by
      have := ha.2.1; simp at this; omega)
  · rintro a ⟨h1, h2, _⟩
    simp at h2; omega
/-- A row of one number, and one of two. -/
theorem row_one (w : World) (x : Int) : Row (w.alloc (.cells #[.int .i64 x] 3)) (some ⟨w.heap.size, 0, none⟩) [x] := row_lit w [x]
theorem row_two (w : World) (x y : Int) : Row (w.alloc (.cells #[.int .i64 x, .int .i64 y] 3)) (some ⟨w.heap.size, 0, none⟩) [x, y] := row_lit w [x, y]
theorem row_up {w : World} {a : Option Addr} {zs : List Int} (h : Row w a zs) (o : Obj) : Row (w.alloc o) a zs := h.alloc o
abbrev ad (n : Nat) : Option Addr := some ⟨n, 0, none⟩
theorem k4 (w : World) : RRow ((((w.alloc (.cells #[.int .i64 1] 3)).alloc (.cells #[.int .i64 0] 3)).alloc (.cells #[.int .i64 0] 3)).alloc (.cells #[sl w.heap.size 1, sl (w.heap.size + 1) 1, sl (w.heap.size + 1 + 1) 1, .slice none 0 0] 22)) (ad (w.heap.size + 1 + 1 + 1)) [(ad w.heap.size, [1], 1), (ad (w.heap.size + 1), [0], 1), (ad (w.heap.size + 1 + 1), [0], 1), (none, [], 0)] := by
  have e1 : (w.alloc (.cells #[.int .i64 1] 3)).heap.size = w.heap.size + 1 := by simp
  have e2 : ((w.alloc (.cells #[.int .i64 1] 3)).alloc (.cells #[.int .i64 0] 3)).heap.size = w.heap.size + 1 + 1 := by simp
  have e3 : (((w.alloc (.cells #[.int .i64 1] 3)).alloc (.cells #[.int .i64 0] 3)).alloc (.cells #[.int .i64 0] 3)).heap.size = w.heap.size + 1 + 1 + 1 := by simp
  have r1 := ((row_one w 1).alloc (.cells #[.int .i64 0] 3)).alloc (.cells #[.int .i64 0] 3)
  have r2 := (row_one (w.alloc (.cells #[.int .i64 1] 3)) 0).alloc (.cells #[.int .i64 0] 3)
  have r3 := row_one ((w.alloc (.cells #[.int .i64 1] 3)).alloc (.cells #[.int .i64 0] 3)) 0
  rw [e1] at r2
  rw [e2] at r3
  have := rrow_lit (((w.alloc (.cells #[.int .i64 1] 3)).alloc (.cells #[.int .i64 0] 3)).alloc (.cells #[.int .i64 0] 3)) [(ad w.heap.size, [1], 1), (ad (w.heap.size + 1), [0], 1), (ad (w.heap.size + 1 + 1), [0], 1), (none, [], 0)] (fun x hx => by
    simp only [List.mem_cons, List.not_mem_nil, or_false] at hx
    rcases hx with rfl | rfl | rfl | rfl
    · exact ⟨r1, Nat.le_refl _⟩
    · exact ⟨r2, Nat.le_refl _⟩
    · exact ⟨r3, Nat.le_refl _⟩
    · exact ⟨.inl rfl, Nat.le_refl _⟩)
  rw [e3] at this
  exact this
theorem edges4 (n1 n2 n3 : Nat) : edgesOf [(ad n1, [1], 1), (ad n2, [0], 1), (ad n3, [0], 1), (none, [], 0)] = E4 := by
  funext i
  match i with
  | 0 => rfl
  | 1 => rfl
  | 2 => rfl
  | 3 => rfl
  | i + 4 => rfl
theorem t3 (w : World) : RRow ((((w.alloc (.cells #[.int .i64 0, .int .i64 1] 3)).alloc (.cells #[.int .i64 2] 3)).alloc (.cells #[.int .i64 3] 3)).alloc (.cells #[sl w.heap.size 2, sl (w.heap.size + 1) 1, sl (w.heap.size + 1 + 1) 1] 22)) (ad (w.heap.size + 1 + 1 + 1)) [(ad w.heap.size, [0, 1], 2), (ad (w.heap.size + 1), [2], 1), (ad (w.heap.size + 1 + 1), [3], 1)] := by
  have e1 : (w.alloc (.cells #[.int .i64 0, .int .i64 1] 3)).heap.size = w.heap.size + 1 := by simp
  have e2 : ((w.alloc (.cells #[.int .i64 0, .int .i64 1] 3)).alloc (.cells #[.int .i64 2] 3)).heap.size = w.heap.size + 1 + 1 := by simp
  have e3 : (((w.alloc (.cells #[.int .i64 0, .int .i64 1] 3)).alloc (.cells #[.int .i64 2] 3)).alloc (.cells #[.int .i64 3] 3)).heap.size = w.heap.size + 1 + 1 + 1 := by simp
  have r1 := ((row_two w 0 1).alloc (.cells #[.int .i64 2] 3)).alloc (.cells #[.int .i64 3] 3)
  have r2 := (row_one (w.alloc (.cells #[.int .i64 0, .int .i64 1] 3)) 2).alloc (.cells #[.int .i64 3] 3)
  have r3 := row_one ((w.alloc (.cells #[.int .i64 0, .int .i64 1] 3)).alloc (.cells #[.int .i64 2] 3)) 3
  rw [e1] at r2
  rw [e2] at r3
  have := rrow_lit (((w.alloc (.cells #[.int .i64 0, .int .i64 1] 3)).alloc (.cells #[.int .i64 2] 3)).alloc (.cells #[.int .i64 3] 3)) [(ad w.heap.size, [0, 1], 2), (ad (w.heap.size + 1), [2], 1), (ad (w.heap.size + 1 + 1), [3], 1)] (fun x hx => by
    simp only [List.mem_cons, List.not_mem_nil, or_false] at hx
    rcases hx with rfl | rfl | rfl
    · exact ⟨r1, Nat.le_refl _⟩
    · exact ⟨r2, Nat.le_refl _⟩
    · exact ⟨r3, Nat.le_refl _⟩)
  rw [e3] at this
  exact this
theorem l1 (w : World) : RRow ((w.alloc (.cells #[.int .i64 0] 3)).alloc (.cells #[sl w.heap.size 1] 22)) (ad (w.heap.size + 1)) [(ad w.heap.size, [0], 1)] := by
  have e1 : (w.alloc (.cells #[.int .i64 0] 3)).heap.size = w.heap.size + 1 := by simp
  have r1 := row_one w 0
  have := rrow_lit (w.alloc (.cells #[.int .i64 0] 3)) [(ad w.heap.size, [0], 1)] (fun x hx => by
    simp only [List.mem_cons, List.not_mem_nil, or_false] at hx
    rcases hx with rfl
    exact ⟨r1, Nat.le_refl _⟩)
  rw [e1] at this
  exact this
theorem l2 (w : World) : RRow (((w.alloc (.cells #[.int .i64 1] 3)).alloc (.cells #[.int .i64 0] 3)).alloc (.cells #[sl w.heap.size 1, sl (w.heap.size + 1) 1] 22)) (ad (w.heap.size + 1 + 1)) [(ad w.heap.size, [1], 1), (ad (w.heap.size + 1), [0], 1)] := by
  have e1 : (w.alloc (.cells #[.int .i64 1] 3)).heap.size = w.heap.size + 1 := by simp
  have e2 : ((w.alloc (.cells #[.int .i64 1] 3)).alloc (.cells #[.int .i64 0] 3)).heap.size = w.heap.size + 1 + 1 := by simp
  have r1 := (row_one w 1).alloc (.cells #[.int .i64 0] 3)
  have r2 := row_one (w.alloc (.cells #[.int .i64 1] 3)) 0
  rw [e1] at r2
  have := rrow_lit ((w.alloc (.cells #[.int .i64 1] 3)).alloc (.cells #[.int .i64 0] 3)) [(ad w.heap.size, [1], 1), (ad (w.heap.size + 1), [0], 1)] (fun x hx => by
    simp only [List.mem_cons, List.not_mem_nil, or_false] at hx
    rcases hx with rfl | rfl
    · exact ⟨r1, Nat.le_refl _⟩
    · exact ⟨r2, Nat.le_refl _⟩)
  rw [e2] at this
  exact this
/-- Components never returns more rows than nodes, nor longer ones. -/
theorem CompsOf.small {n : Nat} {E : Nat → List Int} {R : List (List Int)} (h : CompsOf n E R) : R.length ≤ n ∧ ∀ r ∈ R, r.length ≤ n := by
  obtain ⟨m, H, S, h1, h2, h3, rfl⟩ := h
  have := nd_len m S h2.ok.2.1 h2.ok.1
  refine ⟨by rw [List.length_map]; have := h1.le; omega, fun r hr => ?_⟩
  obtain ⟨c, _, rfl⟩ := List.mem_map.1 hr
  exact cls_len n H c
set_option maxRecDepth 100000 in
set_option maxHeartbeats 4000000 in
theorem head_calls (w : World) : Calls Try.prog 7 #[] w fun e w' => e = .returned (.bool true) ∧ Below w.heap.size w w' := by
  obtain ⟨B, hB⟩ : ∃ B, w.heap.size = B := ⟨_, rfl⟩
  rw [hB]
  have HBB := Lib.hid hB
  clear hB
  go_enter Try.func7, Try.ntmps7
  go_wp2_with fail
  have c1 := comps_calls (ec := 4) (k4 w) (fun i hi => by
    rw [edges4]; unfold E4; split <;> (try split) <;> (try split) <;> simp) (by rw [edges4]; exact (by decide : tot 4 (fun v => (E4 v).length) ≤ 1000000)) (by exact (by decide : 4 ≤ 100000))
  rw [edges4] at c1
  refine c1.mono ?_
  rintro e w2 ⟨a, cap, M, rfl, hM, hC, hbe⟩
  have hR : rowsOf M = [[0, 1], [2], [3]] := hC.unique comps4
  obtain ⟨hs1, hs2⟩ := CompsOf.small (n := 4) hC
  have HM := Lib.hid hM
  have HR := Lib.hid hR
  have BE : Hid (Below B w w2) := Lib.hid ((((((Below.refl _ _).alloc (by rw [HBB.out]; omega) _).alloc (by simp; rw [HBB.out]; omega) _).alloc (by simp; rw [HBB.out]; omega) _).alloc (by simp; rw [HBB.out]; omega) _).trans (hbe.mono (by simp; rw [HBB.out]; omega)))
  have hl3 : M.length = 3 := by have := congrArg List.length hR; simpa [rowsOf] using this
  have HS2 : Hid (∀ x ∈ M, x.2.1.length ≤ 1000000) := Lib.hid (fun x hx => by have := hs2 x.2.1 (List.mem_map.2 ⟨x, hx, rfl⟩); omega)
  clear c1 hM hC hbe hR hs1 hs2
  rw [hl3]
  have HL3 := Lib.hid hl3
  clear hl3
  go_wp2_with fail
  have b3 : Below w2.heap.size w2 ((((w2.alloc (.cells #[.int .i64 0, .int .i64 1] 3)).alloc (.cells #[.int .i64 2] 3)).alloc (.cells #[.int .i64 3] 3)).alloc (.cells #[sl w2.heap.size 2, sl (w2.heap.size + 1) 1, sl (w2.heap.size + 1 + 1) 1] 22)) := ((((Below.refl _ _).alloc (Nat.le_refl _) _).alloc (by simp) _).alloc (by simp; omega) _).alloc (by simp; omega) _
  have c2 := is_calls (ca := cap) (cb := 3) (HM.out.below b3) (t3 w2) (by rw [HL3.out]; omega) (by exact (by decide : 3 ≤ 1000000)) HS2.out (fun x hx => by
    simp only [List.mem_cons, List.not_mem_nil, or_false] at hx
    rcases hx with rfl | rfl | rfl <;> simp)
  have hT : rowsOf [(ad w2.heap.size, [0, 1], 2), (ad (w2.heap.size + 1), [2], 1), (ad (w2.heap.size + 1 + 1), [3], 1)] = [[0, 1], [2], [3]] := rfl
  rw [HR.out, hT, HL3.out] at c2
  have BE3 : Hid (Below B w ((((w2.alloc (.cells #[.int .i64 0, .int .i64 1] 3)).alloc (.cells #[.int .i64 2] 3)).alloc (.cells #[.int .i64 3] 3)).alloc (.cells #[sl w2.heap.size 2, sl (w2.heap.size + 1) 1, sl (w2.heap.size + 1 + 1) 1] 22))) := Lib.hid (BE.out.trans (b3.mono (by have := BE.out.size; rw [HBB.out] at this; exact this)))
  refine c2.mono ?_
  rintro e w4 ⟨rfl, hb4⟩
  have BE4 : Hid (Below B w w4) := Lib.hid (BE3.out.trans (hb4.mono (by have := BE3.out.size; rw [HBB.out] at this; exact this)))
  clear c2 hb4 b3 BE3 hT
  rw [show (decide ([[(0 : Int), 1], [2], [3]] = [[0, 1], [2], [3]])) = true from rfl]
  have hs4 : B ≤ w4.heap.size := by have := BE4.out.size; rw [HBB.out] at this; exact this
  have c3 := loops_calls (c := 1) (l1 w4) (by exact (by decide : 1 ≤ 1000000)) (fun i hi => by
    have : i = 0 := by simp at hi; omega
    subst this; exact (by decide : 1 ≤ 1000000)) 0
  rw [show (decide ((0 ≤ (0 : Int) ∧ (0 : Int) < (([(ad w4.heap.size, [0], 1)] : List RV).length : Int)) ∧ (0 : Int) ∈ edgesOf [(ad w4.heap.size, [0], 1)] (0 : Int).toNat)) = true from by simp [edgesOf, atV]] at c3
  have BE5 : Hid (Below B w ((w4.alloc (.cells #[.int .i64 0] 3)).alloc (.cells #[sl w4.heap.size 1] 22))) := Lib.hid ((BE4.out.alloc hs4 _).alloc (by simp; omega) _)
  go_wp2_with fail
  refine c3.mono ?_
  rintro e w5 ⟨rfl, rfl⟩
  clear c3
  generalize World.alloc (World.alloc w4 _) _ = w5 at *
  have hs5 : B ≤ w5.heap.size := by have := BE5.out.size; rw [HBB.out] at this; exact this
  have c4 := loops_calls (c := 2) (l2 w5) (by exact (by decide : 2 ≤ 1000000)) (fun i hi => by
    have : i = 0 ∨ i = 1 := by simp at hi; omega
    rcases this with rfl | rfl <;> exact (by decide : 1 ≤ 1000000)) 0
  rw [show (decide ((0 ≤ (0 : Int) ∧ (0 : Int) < (([(ad w5.heap.size, [1], 1), (ad (w5.heap.size + 1), [0], 1)] : List RV).length : Int)) ∧ (0 : Int) ∈ edgesOf [(ad w5.heap.size, [1], 1), (ad (w5.heap.size + 1), [0], 1)] (0 : Int).toNat)) = false from by simp [edgesOf, atV]] at c4
  have BE6 : Hid (Below B w (((w5.alloc (.cells #[.int .i64 1] 3)).alloc (.cells #[.int .i64 0] 3)).alloc (.cells #[sl w5.heap.size 1, sl (w5.heap.size + 1) 1] 22))) := Lib.hid (((BE5.out.alloc hs5 _).alloc (by simp; omega) _).alloc (by simp; omega) _)
  go_wp2_with fail
  refine c4.mono ?_
  rintro e w6 ⟨rfl, rfl⟩
  clear c4
  go_wp2_with fail
  go_ret
  exact ⟨rfl, BE6.out⟩
end Go.Proofs.Ytfpocoaddmgakaa
