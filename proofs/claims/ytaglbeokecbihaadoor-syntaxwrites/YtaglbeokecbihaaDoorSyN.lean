/- The statements' head, walked. Written by mksyn.py. -/
import Derived.Test.YtaglbeokecbihaaDoorSyM
namespace Go.Proofs.YtaglbeokecbihaaDoor
open Go.RowKit
set_option linter.unusedVariables false
set_option linter.unusedSimpArgs false

/-- What lies in memory when the example has been built. -/
structure HeadMem (B : Nat) (w W : World) : Prop where
  h0 : W.heap[B + 0]? = some (.cells #[.int .i64 0, .string ⟨#[90]⟩, .int .i64 0, .int .i64 0, .slice none 0 0, .int .i64 1, .string ⟨#[]⟩, .int .i64 1, .int .i64 0, .slice none 0 0] 57 (0, 0))
  h1 : W.heap[B + 1]? = some (.cells #[.int .i64 0, .string ⟨#[]⟩, .int .i64 0, .int .i64 0, .slice (some ⟨B, 0, none⟩) 2 2, .int .i64 1, .string ⟨#[]⟩, .int .i64 2, .int .i64 0, .slice none 0 0] 57 (0, 0))
  h2 : W.heap[B + 2]? = some (.cells #[.int .i64 0, .string ⟨#[]⟩, .int .i64 0, .int .i64 2, .slice (some ⟨B + 1, 0, none⟩) 2 2] 57 (0, 0))
  h3 : W.heap[B + 3]? = some (.cells #[.int .i64 0, .string ⟨#[88]⟩, .int .i64 0, .int .i64 0, .string ⟨#[89]⟩, .int .i64 0] 44 (0, 0))
  h4 : W.heap[B + 4]? = some (.cells #[.int .i64 0, .string ⟨#[88]⟩, .int .i64 0, .int .i64 0, .string ⟨#[90]⟩, .int .i64 0] 44 (0, 0))
  h5 : W.heap[B + 5]? = some (.cells #[.int .i64 0, .string ⟨#[113]⟩, .slice (some ⟨B + 4, 0, none⟩) 2 2, .int .i64 0, .int .i64 0, .string ⟨#[]⟩, .int .i64 0, .int .i64 0, .string ⟨#[]⟩, .int .i64 0, .string ⟨#[]⟩, .int .i64 0, .string ⟨#[]⟩, .int .i64 0, .int .i64 0, .slice none 0 0, .int .i64 3, .string ⟨#[]⟩, .slice none 0 0, .int .i64 0, .int .i64 0, .string ⟨#[]⟩, .int .i64 0, .int .i64 0, .string ⟨#[]⟩, .int .i64 0, .string ⟨#[89]⟩, .int .i64 0, .string ⟨#[]⟩, .int .i64 0, .int .i64 2, .slice (some ⟨B + 1, 0, none⟩) 2 2] 59 (0, 0))
  h6 : W.heap[B + 6]? = some (.cells #[.string ⟨#[112]⟩, .slice (some ⟨B + 3, 0, none⟩) 2 2, .int .i64 2, .slice (some ⟨B + 5, 0, none⟩) 2 2, .int .i64 0] 71 (0, 0))
  sz : W.heap.size = B + 7
  bel : Below B w W
theorem headMem (w : World) (B : Nat) (hB : w.heap.size = B) : HeadMem B w (((((((w.alloc (.cells #[.int .i64 0, .string ⟨#[90]⟩, .int .i64 0, .int .i64 0, .slice none 0 0, .int .i64 1, .string ⟨#[]⟩, .int .i64 1, .int .i64 0, .slice none 0 0] 57)).alloc (.cells #[.int .i64 0, .string ⟨#[]⟩, .int .i64 0, .int .i64 0, .slice (some ⟨B, 0, none⟩) 2 2, .int .i64 1, .string ⟨#[]⟩, .int .i64 2, .int .i64 0, .slice none 0 0] 57)).alloc (.cells #[.int .i64 0, .string ⟨#[]⟩, .int .i64 0, .int .i64 2, .slice (some ⟨B + 1, 0, none⟩) 2 2] 57)).alloc (.cells #[.int .i64 0, .string ⟨#[88]⟩, .int .i64 0, .int .i64 0, .string ⟨#[89]⟩, .int .i64 0] 44)).alloc (.cells #[.int .i64 0, .string ⟨#[88]⟩, .int .i64 0, .int .i64 0, .string ⟨#[90]⟩, .int .i64 0] 44)).alloc (.cells #[.int .i64 0, .string ⟨#[113]⟩, .slice (some ⟨B + 4, 0, none⟩) 2 2, .int .i64 0, .int .i64 0, .string ⟨#[]⟩, .int .i64 0, .int .i64 0, .string ⟨#[]⟩, .int .i64 0, .string ⟨#[]⟩, .int .i64 0, .string ⟨#[]⟩, .int .i64 0, .int .i64 0, .slice none 0 0, .int .i64 3, .string ⟨#[]⟩, .slice none 0 0, .int .i64 0, .int .i64 0, .string ⟨#[]⟩, .int .i64 0, .int .i64 0, .string ⟨#[]⟩, .int .i64 0, .string ⟨#[89]⟩, .int .i64 0, .string ⟨#[]⟩, .int .i64 0, .int .i64 2, .slice (some ⟨B + 1, 0, none⟩) 2 2] 59)).alloc (.cells #[.string ⟨#[112]⟩, .slice (some ⟨B + 3, 0, none⟩) 2 2, .int .i64 2, .slice (some ⟨B + 5, 0, none⟩) 2 2, .int .i64 0] 71)) := by
  have s0 : w.heap.size = B := hB
  have n0 : (w.alloc (.cells #[.int .i64 0, .string ⟨#[90]⟩, .int .i64 0, .int .i64 0, .slice none 0 0, .int .i64 1, .string ⟨#[]⟩, .int .i64 1, .int .i64 0, .slice none 0 0] 57)).heap[B + 0]? = some (.cells #[.int .i64 0, .string ⟨#[90]⟩, .int .i64 0, .int .i64 0, .slice none 0 0, .int .i64 1, .string ⟨#[]⟩, .int .i64 1, .int .i64 0, .slice none 0 0] 57 (0, 0)) := by rw [← s0]; exact heap_alloc_new _ _
  obtain ⟨W1, hW1⟩ : ∃ W', w.alloc (.cells #[.int .i64 0, .string ⟨#[90]⟩, .int .i64 0, .int .i64 0, .slice none 0 0, .int .i64 1, .string ⟨#[]⟩, .int .i64 1, .int .i64 0, .slice none 0 0] 57) = W' := ⟨_, rfl⟩
  have b0 : Below w.heap.size w W1 := by rw [← hW1]; exact (Below.refl _ _).alloc (Nat.le_refl _) _
  have s1 : W1.heap.size = B + 1 := by rw [← hW1]; simp [s0]
  rw [hW1] at n0 ⊢
  have n1 : (W1.alloc (.cells #[.int .i64 0, .string ⟨#[]⟩, .int .i64 0, .int .i64 0, .slice (some ⟨B, 0, none⟩) 2 2, .int .i64 1, .string ⟨#[]⟩, .int .i64 2, .int .i64 0, .slice none 0 0] 57)).heap[B + 1]? = some (.cells #[.int .i64 0, .string ⟨#[]⟩, .int .i64 0, .int .i64 0, .slice (some ⟨B, 0, none⟩) 2 2, .int .i64 1, .string ⟨#[]⟩, .int .i64 2, .int .i64 0, .slice none 0 0] 57 (0, 0)) := by rw [← s1]; exact heap_alloc_new _ _
  obtain ⟨W2, hW2⟩ : ∃ W', W1.alloc (.cells #[.int .i64 0, .string ⟨#[]⟩, .int .i64 0, .int .i64 0, .slice (some ⟨B, 0, none⟩) 2 2, .int .i64 1, .string ⟨#[]⟩, .int .i64 2, .int .i64 0, .slice none 0 0] 57) = W' := ⟨_, rfl⟩
  have b1 : Below W1.heap.size W1 W2 := by rw [← hW2]; exact (Below.refl _ _).alloc (Nat.le_refl _) _
  have s2 : W2.heap.size = B + 2 := by rw [← hW2]; simp [s1]
  rw [hW2] at n1 ⊢
  have n2 : (W2.alloc (.cells #[.int .i64 0, .string ⟨#[]⟩, .int .i64 0, .int .i64 2, .slice (some ⟨B + 1, 0, none⟩) 2 2] 57)).heap[B + 2]? = some (.cells #[.int .i64 0, .string ⟨#[]⟩, .int .i64 0, .int .i64 2, .slice (some ⟨B + 1, 0, none⟩) 2 2] 57 (0, 0)) := by rw [← s2]; exact heap_alloc_new _ _
  obtain ⟨W3, hW3⟩ : ∃ W', W2.alloc (.cells #[.int .i64 0, .string ⟨#[]⟩, .int .i64 0, .int .i64 2, .slice (some ⟨B + 1, 0, none⟩) 2 2] 57) = W' := ⟨_, rfl⟩
  have b2 : Below W2.heap.size W2 W3 := by rw [← hW3]; exact (Below.refl _ _).alloc (Nat.le_refl _) _
  have s3 : W3.heap.size = B + 3 := by rw [← hW3]; simp [s2]
  rw [hW3] at n2 ⊢
  have n3 : (W3.alloc (.cells #[.int .i64 0, .string ⟨#[88]⟩, .int .i64 0, .int .i64 0, .string ⟨#[89]⟩, .int .i64 0] 44)).heap[B + 3]? = some (.cells #[.int .i64 0, .string ⟨#[88]⟩, .int .i64 0, .int .i64 0, .string ⟨#[89]⟩, .int .i64 0] 44 (0, 0)) := by rw [← s3]; exact heap_alloc_new _ _
  obtain ⟨W4, hW4⟩ : ∃ W', W3.alloc (.cells #[.int .i64 0, .string ⟨#[88]⟩, .int .i64 0, .int .i64 0, .string ⟨#[89]⟩, .int .i64 0] 44) = W' := ⟨_, rfl⟩
  have b3 : Below W3.heap.size W3 W4 := by rw [← hW4]; exact (Below.refl _ _).alloc (Nat.le_refl _) _
  have s4 : W4.heap.size = B + 4 := by rw [← hW4]; simp [s3]
  rw [hW4] at n3 ⊢
  have n4 : (W4.alloc (.cells #[.int .i64 0, .string ⟨#[88]⟩, .int .i64 0, .int .i64 0, .string ⟨#[90]⟩, .int .i64 0] 44)).heap[B + 4]? = some (.cells #[.int .i64 0, .string ⟨#[88]⟩, .int .i64 0, .int .i64 0, .string ⟨#[90]⟩, .int .i64 0] 44 (0, 0)) := by rw [← s4]; exact heap_alloc_new _ _
  obtain ⟨W5, hW5⟩ : ∃ W', W4.alloc (.cells #[.int .i64 0, .string ⟨#[88]⟩, .int .i64 0, .int .i64 0, .string ⟨#[90]⟩, .int .i64 0] 44) = W' := ⟨_, rfl⟩
  have b4 : Below W4.heap.size W4 W5 := by rw [← hW5]; exact (Below.refl _ _).alloc (Nat.le_refl _) _
  have s5 : W5.heap.size = B + 5 := by rw [← hW5]; simp [s4]
  rw [hW5] at n4 ⊢
  have n5 : (W5.alloc (.cells #[.int .i64 0, .string ⟨#[113]⟩, .slice (some ⟨B + 4, 0, none⟩) 2 2, .int .i64 0, .int .i64 0, .string ⟨#[]⟩, .int .i64 0, .int .i64 0, .string ⟨#[]⟩, .int .i64 0, .string ⟨#[]⟩, .int .i64 0, .string ⟨#[]⟩, .int .i64 0, .int .i64 0, .slice none 0 0, .int .i64 3, .string ⟨#[]⟩, .slice none 0 0, .int .i64 0, .int .i64 0, .string ⟨#[]⟩, .int .i64 0, .int .i64 0, .string ⟨#[]⟩, .int .i64 0, .string ⟨#[89]⟩, .int .i64 0, .string ⟨#[]⟩, .int .i64 0, .int .i64 2, .slice (some ⟨B + 1, 0, none⟩) 2 2] 59)).heap[B + 5]? = some (.cells #[.int .i64 0, .string ⟨#[113]⟩, .slice (some ⟨B + 4, 0, none⟩) 2 2, .int .i64 0, .int .i64 0, .string ⟨#[]⟩, .int .i64 0, .int .i64 0, .string ⟨#[]⟩, .int .i64 0, .string ⟨#[]⟩, .int .i64 0, .string ⟨#[]⟩, .int .i64 0, .int .i64 0, .slice none 0 0, .int .i64 3, .string ⟨#[]⟩, .slice none 0 0, .int .i64 0, .int .i64 0, .string ⟨#[]⟩, .int .i64 0, .int .i64 0, .string ⟨#[]⟩, .int .i64 0, .string ⟨#[89]⟩, .int .i64 0, .string ⟨#[]⟩, .int .i64 0, .int .i64 2, .slice (some ⟨B + 1, 0, none⟩) 2 2] 59 (0, 0)) := by rw [← s5]; exact heap_alloc_new _ _
  obtain ⟨W6, hW6⟩ : ∃ W', W5.alloc (.cells #[.int .i64 0, .string ⟨#[113]⟩, .slice (some ⟨B + 4, 0, none⟩) 2 2, .int .i64 0, .int .i64 0, .string ⟨#[]⟩, .int .i64 0, .int .i64 0, .string ⟨#[]⟩, .int .i64 0, .string ⟨#[]⟩, .int .i64 0, .string ⟨#[]⟩, .int .i64 0, .int .i64 0, .slice none 0 0, .int .i64 3, .string ⟨#[]⟩, .slice none 0 0, .int .i64 0, .int .i64 0, .string ⟨#[]⟩, .int .i64 0, .int .i64 0, .string ⟨#[]⟩, .int .i64 0, .string ⟨#[89]⟩, .int .i64 0, .string ⟨#[]⟩, .int .i64 0, .int .i64 2, .slice (some ⟨B + 1, 0, none⟩) 2 2] 59) = W' := ⟨_, rfl⟩
  have b5 : Below W5.heap.size W5 W6 := by rw [← hW6]; exact (Below.refl _ _).alloc (Nat.le_refl _) _
  have s6 : W6.heap.size = B + 6 := by rw [← hW6]; simp [s5]
  rw [hW6] at n5 ⊢
  have n6 : (W6.alloc (.cells #[.string ⟨#[112]⟩, .slice (some ⟨B + 3, 0, none⟩) 2 2, .int .i64 2, .slice (some ⟨B + 5, 0, none⟩) 2 2, .int .i64 0] 71)).heap[B + 6]? = some (.cells #[.string ⟨#[112]⟩, .slice (some ⟨B + 3, 0, none⟩) 2 2, .int .i64 2, .slice (some ⟨B + 5, 0, none⟩) 2 2, .int .i64 0] 71 (0, 0)) := by rw [← s6]; exact heap_alloc_new _ _
  obtain ⟨W7, hW7⟩ : ∃ W', W6.alloc (.cells #[.string ⟨#[112]⟩, .slice (some ⟨B + 3, 0, none⟩) 2 2, .int .i64 2, .slice (some ⟨B + 5, 0, none⟩) 2 2, .int .i64 0] 71) = W' := ⟨_, rfl⟩
  have b6 : Below W6.heap.size W6 W7 := by rw [← hW7]; exact (Below.refl _ _).alloc (Nat.le_refl _) _
  have s7 : W7.heap.size = B + 7 := by rw [← hW7]; simp [s6]
  rw [hW7] at n6 ⊢
  exact ⟨((b6.block (B + 0) (by omega)).trans ((b5.block (B + 0) (by omega)).trans ((b4.block (B + 0) (by omega)).trans ((b3.block (B + 0) (by omega)).trans ((b2.block (B + 0) (by omega)).trans ((b1.block (B + 0) (by omega)).trans n0)))))), ((b6.block (B + 1) (by omega)).trans ((b5.block (B + 1) (by omega)).trans ((b4.block (B + 1) (by omega)).trans ((b3.block (B + 1) (by omega)).trans ((b2.block (B + 1) (by omega)).trans n1))))), ((b6.block (B + 2) (by omega)).trans ((b5.block (B + 2) (by omega)).trans ((b4.block (B + 2) (by omega)).trans ((b3.block (B + 2) (by omega)).trans n2)))), ((b6.block (B + 3) (by omega)).trans ((b5.block (B + 3) (by omega)).trans ((b4.block (B + 3) (by omega)).trans n3))), ((b6.block (B + 4) (by omega)).trans ((b5.block (B + 4) (by omega)).trans n4)), ((b6.block (B + 5) (by omega)).trans n5), n6, s7, ((((((((Below.refl B w).trans (b0.mono (by omega))).trans (b1.mono (by omega))).trans (b2.mono (by omega))).trans (b3.mono (by omega))).trans (b4.mono (by omega))).trans (b5.mono (by omega))).trans (b6.mono (by omega)))⟩
theorem head_x {B : Nat} {w W : World} (h : HeadMem B w W) : XIn (B + 7) W xh ⟨0, ⟨#[]⟩, 0, 2, some ⟨B + 1, 0, none⟩, 2, 2⟩ := by
  refine ⟨B + 1, 2, ⟨0, ⟨#[]⟩, 0, 0, some ⟨B, 0, none⟩, 2, 2⟩, ⟨1, ⟨#[]⟩, 2, 0, none, 0, 0⟩, rfl, by decide, by omega, ?_, ?_, ⟨B, 2, ⟨0, ⟨#[90]⟩, 0, 0, none, 0, 0⟩, ⟨1, ⟨#[]⟩, 1, 0, none, 0, 0⟩, rfl, by decide, by omega, ?_, ?_, ⟨rfl, ok_tm _ (by simp)⟩, ⟨rfl, ok_tm _ (by simp)⟩⟩, ⟨rfl, ok_tm _ (by simp)⟩⟩
  · intro j u hu
    match j, hu with
    | 0, hu => exact cellAt h.h1 hu
    | 1, hu => exact cellAt h.h1 hu
    | 2, hu => exact cellAt h.h1 hu
    | 3, hu => exact cellAt h.h1 hu
    | 4, hu => exact cellAt h.h1 hu
    | j + 5, hu => simp [XV.cells] at hu
  · intro j u hu
    match j, hu with
    | 0, hu => exact cellAt h.h1 hu
    | 1, hu => exact cellAt h.h1 hu
    | 2, hu => exact cellAt h.h1 hu
    | 3, hu => exact cellAt h.h1 hu
    | 4, hu => exact cellAt h.h1 hu
    | j + 5, hu => simp [XV.cells] at hu
  · intro j u hu
    match j, hu with
    | 0, hu => exact cellAt h.h0 hu
    | 1, hu => exact cellAt h.h0 hu
    | 2, hu => exact cellAt h.h0 hu
    | 3, hu => exact cellAt h.h0 hu
    | 4, hu => exact cellAt h.h0 hu
    | j + 5, hu => simp [XV.cells] at hu
  · intro j u hu
    match j, hu with
    | 0, hu => exact cellAt h.h0 hu
    | 1, hu => exact cellAt h.h0 hu
    | 2, hu => exact cellAt h.h0 hu
    | 3, hu => exact cellAt h.h0 hu
    | 4, hu => exact cellAt h.h0 hu
    | j + 5, hu => simp [XV.cells] at hu
theorem head_a {B : Nat} {w W : World} (h : HeadMem B w W) : TmRow (B + 7) W (some ⟨B + 3, 0, none⟩) [tmX, tmY] := by
  refine ⟨fun t ht => ok_tm t (by simp at ht; rcases ht with rfl | rfl <;> simp), .inr ⟨B + 3, rfl, by omega, fun i hi => ?_⟩⟩
  have hi2 : i = 0 ∨ i = 1 := by simp at hi; omega
  rcases hi2 with rfl | rfl
  · exact ⟨cellAt h.h3 rfl, cellAt h.h3 rfl, cellAt h.h3 rfl⟩
  · exact ⟨cellAt h.h3 rfl, cellAt h.h3 rfl, cellAt h.h3 rfl⟩
theorem head_q {B : Nat} {w W : World} (h : HeadMem B w W) : TmRow (B + 7) W (some ⟨B + 4, 0, none⟩) [tmX, tmZ] := by
  refine ⟨fun t ht => ok_tm t (by simp at ht; rcases ht with rfl | rfl <;> simp), .inr ⟨B + 4, rfl, by omega, fun i hi => ?_⟩⟩
  have hi2 : i = 0 ∨ i = 1 := by simp at hi; omega
  rcases hi2 with rfl | rfl
  · exact ⟨cellAt h.h4 rfl, cellAt h.h4 rfl, cellAt h.h4 rfl⟩
  · exact ⟨cellAt h.h4 rfl, cellAt h.h4 rfl, cellAt h.h4 rfl⟩
theorem head_p {B : Nat} {w W : World} (h : HeadMem B w W) : PtRow (B + 7) W (some ⟨B + 5, 0, none⟩) [.pos ⟨#[113]⟩ [tmX, tmZ], .letx ⟨#[89]⟩ xh] := by
  refine .inr ⟨B + 5, rfl, by omega, fun i hi => ?_⟩
  have hi2 : i = 0 ∨ i = 1 := by simp at hi; omega
  rcases hi2 with rfl | rfl
  · exact ⟨(.int .i64 0), (.string ⟨#[113]⟩), (.slice (some ⟨B + 4, 0, none⟩) 2 2), (.int .i64 0), (.int .i64 0), (.string ⟨#[]⟩), (.int .i64 0), (.int .i64 0), (.string ⟨#[]⟩), (.int .i64 0), (.string ⟨#[]⟩), (.int .i64 0), (.string ⟨#[]⟩), (.int .i64 0), (.int .i64 0), (.slice none 0 0), ⟨_, _, rfl, head_q h, by decide, by decide⟩, cellAt h.h5 rfl, cellAt h.h5 rfl, cellAt h.h5 rfl, cellAt h.h5 rfl, cellAt h.h5 rfl, cellAt h.h5 rfl, cellAt h.h5 rfl, cellAt h.h5 rfl, cellAt h.h5 rfl, cellAt h.h5 rfl, cellAt h.h5 rfl, cellAt h.h5 rfl, cellAt h.h5 rfl, cellAt h.h5 rfl, cellAt h.h5 rfl, cellAt h.h5 rfl⟩
  · exact ⟨(.int .i64 3), (.string ⟨#[]⟩), (.slice none 0 0), (.int .i64 0), (.int .i64 0), (.string ⟨#[]⟩), (.int .i64 0), (.int .i64 0), (.string ⟨#[]⟩), (.int .i64 0), (.string ⟨#[89]⟩), (.int .i64 0), (.string ⟨#[]⟩), (.int .i64 0), (.int .i64 2), (.slice (some ⟨B + 1, 0, none⟩) 2 2), ⟨_, _, _, _, _, _, _, rfl, head_x h, by decide, by rw [xh_B]; decide⟩, cellAt h.h5 rfl, cellAt h.h5 rfl, cellAt h.h5 rfl, cellAt h.h5 rfl, cellAt h.h5 rfl, cellAt h.h5 rfl, cellAt h.h5 rfl, cellAt h.h5 rfl, cellAt h.h5 rfl, cellAt h.h5 rfl, cellAt h.h5 rfl, cellAt h.h5 rfl, cellAt h.h5 rfl, cellAt h.h5 rfl, cellAt h.h5 rfl, cellAt h.h5 rfl⟩
set_option maxRecDepth 100000 in
set_option maxHeartbeats 2000000 in
theorem head13_calls (w : World) (hs : STab w) : Calls Tryd.prog 6 #[] w (TrueRet w) := by
  obtain ⟨B, hB⟩ : ∃ B, w.heap.size = B := ⟨_, rfl⟩
  have HM := Lib.hid (headMem w B hB)
  have h6 : 6 ≤ B := by have := hs.sz; omega
  have CR := Lib.hid (ruleString_calls 2 (by omega) ⟨#[112]⟩ (some ⟨B + 3, 0, none⟩) [tmX, tmY] 2 (some ⟨B + 5, 0, none⟩) [.pos ⟨#[113]⟩ [tmX, tmZ], .letx ⟨#[89]⟩ xh] 2 0 (B + 7) _ (by rw [HM.out.sz]; exact Nat.le_refl _) (head_a HM.out) (head_p HM.out) (hs.on h6 HM.out.bel) (by decide) (by decide) (by decide))
  rw [head_B] at CR
  have HB := Lib.hid hB
  clear hs
  simp only [List.length_cons, List.length_nil] at CR
  go_enter Tryd.func6, Tryd.ntmps6
  go_wp2_with fail
  refine CR.out.mono ?_
  rintro e w1 ⟨rfl, hb1⟩
  have B1 : Hid (Below B w w1) := Lib.hid (HM.out.bel.trans (hb1.mono (by rw [HM.out.sz]; omega)))
  clear hb1 CR HM
  go_wp2_with fail
  go_ret
  exact ⟨rfl, by rw [HB.out]; exact B1.out⟩
end Go.Proofs.YtaglbeokecbihaaDoor
