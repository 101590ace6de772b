/- Comparisons that are made of parts that came in. Written by mksyk.py. -/
import Derived.Test.YtaglbeokecbihaaDoorSyP
namespace Go.Proofs.YtaglbeokecbihaaDoor
open Go.RowKit
set_option linter.unusedVariables false
set_option linter.unusedSimpArgs false

theorem kepSc {M n cap e6 e7 : Nat} {f o pn x1 x2 x3 y1 y2 y3 e1 e2 e3 e4 : Int} {a e5 : Option Addr} {w w' : World} (hb : Below M w w') (hs : M + 2 ≤ w'.heap.size) (h5 : Box16 w' (M + 1)) (hM : w'.heap[M]? = some (.cells #[.int .i64 f, .int .i64 o, .int .i64 pn, .slice a n cap, .int .i64 x1, .int .i64 x2, .int .i64 x3, .int .i64 y1, .int .i64 y2, .int .i64 y3, .int .i64 e1, .int .i64 e2, .int .i64 e3, .int .i64 e4, .slice e5 e6 e7] 40 (0, 0))) : Below M w w' ∧ M + 2 ≤ w'.heap.size ∧ Box16 w' (M + 1) ∧ w'.heap[M]? = some (.cells #[.int .i64 f, .int .i64 o, .int .i64 pn, .slice a n cap, .int .i64 x1, .int .i64 x2, .int .i64 x3, .int .i64 y1, .int .i64 y2, .int .i64 y3, .int .i64 e1, .int .i64 e2, .int .i64 e3, .int .i64 e4, .slice e5 e6 e7] 40 (0, 0)) ∧ w'.cell? ⟨M, 1, none⟩ = some (.int .i64 o) ∧ w'.cell? ⟨M, 4, none⟩ = some (.int .i64 x1) ∧ w'.cell? ⟨M, 5, none⟩ = some (.int .i64 x2) ∧ w'.cell? ⟨M, 6, none⟩ = some (.int .i64 x3) ∧ w'.cell? ⟨M, 7, none⟩ = some (.int .i64 y1) ∧ w'.cell? ⟨M, 8, none⟩ = some (.int .i64 y2) ∧ w'.cell? ⟨M, 9, none⟩ = some (.int .i64 y3) :=
  ⟨hb, hs, h5, hM, cellAt (i := 1) hM rfl, cellAt (i := 4) hM rfl, cellAt (i := 5) hM rfl, cellAt (i := 6) hM rfl, cellAt (i := 7) hM rfl, cellAt (i := 8) hM rfl, cellAt (i := 9) hM rfl⟩
theorem kepCc {M n cap e6 e7 : Nat} {f o pn x1 x2 x3 y1 y2 y3 e1 e2 e3 e4 : Int} {a e5 : Option Addr} {w w' w'' : World} (h : Below M w w' ∧ M + 2 ≤ w'.heap.size ∧ Box16 w' (M + 1) ∧ w'.heap[M]? = some (.cells #[.int .i64 f, .int .i64 o, .int .i64 pn, .slice a n cap, .int .i64 x1, .int .i64 x2, .int .i64 x3, .int .i64 y1, .int .i64 y2, .int .i64 y3, .int .i64 e1, .int .i64 e2, .int .i64 e3, .int .i64 e4, .slice e5 e6 e7] 40 (0, 0)) ∧ w'.cell? ⟨M, 1, none⟩ = some (.int .i64 o) ∧ w'.cell? ⟨M, 4, none⟩ = some (.int .i64 x1) ∧ w'.cell? ⟨M, 5, none⟩ = some (.int .i64 x2) ∧ w'.cell? ⟨M, 6, none⟩ = some (.int .i64 x3) ∧ w'.cell? ⟨M, 7, none⟩ = some (.int .i64 y1) ∧ w'.cell? ⟨M, 8, none⟩ = some (.int .i64 y2) ∧ w'.cell? ⟨M, 9, none⟩ = some (.int .i64 y3)) (hb : Below w'.heap.size w' w'') : Below M w w'' ∧ M + 2 ≤ w''.heap.size ∧ Box16 w'' (M + 1) ∧ w''.heap[M]? = some (.cells #[.int .i64 f, .int .i64 o, .int .i64 pn, .slice a n cap, .int .i64 x1, .int .i64 x2, .int .i64 x3, .int .i64 y1, .int .i64 y2, .int .i64 y3, .int .i64 e1, .int .i64 e2, .int .i64 e3, .int .i64 e4, .slice e5 e6 e7] 40 (0, 0)) ∧ w''.cell? ⟨M, 1, none⟩ = some (.int .i64 o) ∧ w''.cell? ⟨M, 4, none⟩ = some (.int .i64 x1) ∧ w''.cell? ⟨M, 5, none⟩ = some (.int .i64 x2) ∧ w''.cell? ⟨M, 6, none⟩ = some (.int .i64 x3) ∧ w''.cell? ⟨M, 7, none⟩ = some (.int .i64 y1) ∧ w''.cell? ⟨M, 8, none⟩ = some (.int .i64 y2) ∧ w''.cell? ⟨M, 9, none⟩ = some (.int .i64 y3) :=
  kepSc (h.1.trans (hb.mono (by have := h.2.1; omega))) (Nat.le_trans h.2.1 hb.size) (h.2.2.1.below hb) ((hb.block M (by have := h.2.1; omega)).trans h.2.2.2.1)
theorem kepPc {M n cap e6 e7 : Nat} {f o pn x1 x2 x3 y1 y2 y3 e1 e2 e3 e4 : Int} {a e5 : Option Addr} {w w' : World} (r0 r1 r2 r3 r4 r5 r6 r7 r8 r9 r10 r11 r12 r13 r14 r15 : Value) (h : Below M w w' ∧ M + 2 ≤ w'.heap.size ∧ Box16 w' (M + 1) ∧ w'.heap[M]? = some (.cells #[.int .i64 f, .int .i64 o, .int .i64 pn, .slice a n cap, .int .i64 x1, .int .i64 x2, .int .i64 x3, .int .i64 y1, .int .i64 y2, .int .i64 y3, .int .i64 e1, .int .i64 e2, .int .i64 e3, .int .i64 e4, .slice e5 e6 e7] 40 (0, 0)) ∧ w'.cell? ⟨M, 1, none⟩ = some (.int .i64 o) ∧ w'.cell? ⟨M, 4, none⟩ = some (.int .i64 x1) ∧ w'.cell? ⟨M, 5, none⟩ = some (.int .i64 x2) ∧ w'.cell? ⟨M, 6, none⟩ = some (.int .i64 x3) ∧ w'.cell? ⟨M, 7, none⟩ = some (.int .i64 y1) ∧ w'.cell? ⟨M, 8, none⟩ = some (.int .i64 y2) ∧ w'.cell? ⟨M, 9, none⟩ = some (.int .i64 y3)) : Below M w (put16 w' (M + 1) r0 r1 r2 r3 r4 r5 r6 r7 r8 r9 r10 r11 r12 r13 r14 r15) ∧ M + 2 ≤ (put16 w' (M + 1) r0 r1 r2 r3 r4 r5 r6 r7 r8 r9 r10 r11 r12 r13 r14 r15).heap.size ∧ Box16 (put16 w' (M + 1) r0 r1 r2 r3 r4 r5 r6 r7 r8 r9 r10 r11 r12 r13 r14 r15) (M + 1) ∧ (put16 w' (M + 1) r0 r1 r2 r3 r4 r5 r6 r7 r8 r9 r10 r11 r12 r13 r14 r15).heap[M]? = some (.cells #[.int .i64 f, .int .i64 o, .int .i64 pn, .slice a n cap, .int .i64 x1, .int .i64 x2, .int .i64 x3, .int .i64 y1, .int .i64 y2, .int .i64 y3, .int .i64 e1, .int .i64 e2, .int .i64 e3, .int .i64 e4, .slice e5 e6 e7] 40 (0, 0)) ∧ (put16 w' (M + 1) r0 r1 r2 r3 r4 r5 r6 r7 r8 r9 r10 r11 r12 r13 r14 r15).cell? ⟨M, 1, none⟩ = some (.int .i64 o) ∧ (put16 w' (M + 1) r0 r1 r2 r3 r4 r5 r6 r7 r8 r9 r10 r11 r12 r13 r14 r15).cell? ⟨M, 4, none⟩ = some (.int .i64 x1) ∧ (put16 w' (M + 1) r0 r1 r2 r3 r4 r5 r6 r7 r8 r9 r10 r11 r12 r13 r14 r15).cell? ⟨M, 5, none⟩ = some (.int .i64 x2) ∧ (put16 w' (M + 1) r0 r1 r2 r3 r4 r5 r6 r7 r8 r9 r10 r11 r12 r13 r14 r15).cell? ⟨M, 6, none⟩ = some (.int .i64 x3) ∧ (put16 w' (M + 1) r0 r1 r2 r3 r4 r5 r6 r7 r8 r9 r10 r11 r12 r13 r14 r15).cell? ⟨M, 7, none⟩ = some (.int .i64 y1) ∧ (put16 w' (M + 1) r0 r1 r2 r3 r4 r5 r6 r7 r8 r9 r10 r11 r12 r13 r14 r15).cell? ⟨M, 8, none⟩ = some (.int .i64 y2) ∧ (put16 w' (M + 1) r0 r1 r2 r3 r4 r5 r6 r7 r8 r9 r10 r11 r12 r13 r14 r15).cell? ⟨M, 9, none⟩ = some (.int .i64 y3) := by
  obtain ⟨z0, z1, z2, z3, z4, z5, z6, z7, z8, z9, z10, z11, z12, z13, z14, z15, hx⟩ := h.2.2.1
  exact kepSc (below_set16 r0 r1 r2 r3 r4 r5 r6 r7 r8 r9 r10 r11 r12 r13 r14 r15 h.1 (by omega)) (by unfold put16; rw [size_set16]; exact h.2.1) ⟨_, _, _, _, _, _, _, _, _, _, _, _, _, _, _, _, heap_set16 r0 r1 r2 r3 r4 r5 r6 r7 r8 r9 r10 r11 r12 r13 r14 r15 hx⟩ ((other_set16 w' r0 r1 r2 r3 r4 r5 r6 r7 r8 r9 r10 r11 r12 r13 r14 r15 (by omega)).trans h.2.2.2.1)
attribute [local go_sem ↓] st_rule
set_option maxRecDepth 100000 in
set_option maxHeartbeats 8000000 in
theorem part_cmp (f o pn : Int) (a : Option Addr) (T : List TV) (cap : Nat) (x1 x2 x3 y1 y2 y3 e1 e2 e3 e4 : Int) (e5 : Option Addr) (e6 e7 : Nat) (w : World) (hf : uN f % 6 = 4) : Calls Tryd.prog 17 #[.agg #[.int .i64 f, .int .i64 o, .int .i64 pn, .slice a T.length cap, .int .i64 x1, .int .i64 x2, .int .i64 x3, .int .i64 y1, .int .i64 y2, .int .i64 y3, .int .i64 e1, .int .i64 e2, .int .i64 e3, .int .i64 e4, .slice e5 e6 e7]] w (PtRet w (.cmp (uN o % 6) (tmM x1 x2 x3) (tmM y1 y2 y3))) := by
  have n6 : wrap64 ((IntKind.u64.wrap f).tmod 6) = 4 := by have := urem f 6 (by omega) (by omega); rw [hf] at this; exact this
  have hr := urem o 6 (by omega) (by omega)
  have hj : uN o % 6 < 6 := Nat.mod_lt _ (by omega)
  generalize uN o % 6 = op at *
  have o6 : wrap64 ((IntKind.u64.wrap o).tmod 6) = (op : Int) := hr
  have o6w : IntKind.i64.wrap ((IntKind.u64.wrap o).tmod 6) = (op : Int) := by have h9 := o6; rw [IntKind.wrap_i64]; unfold wrap64 at h9; omega
  have CA : Hid (∀ W, Calls Tryd.prog 11 #[.agg #[.int .i64 x1, .int .i64 x2, .int .i64 x3]] W (TmRet W (tmM x1 x2 x3))) := Lib.hid (fun W => term_calls _ _ _ W)
  have CB : Hid (∀ W, Calls Tryd.prog 11 #[.agg #[.int .i64 y1, .int .i64 y2, .int .i64 y3]] W (TmRet W (tmM y1 y2 y3))) := Lib.hid (fun W => term_calls _ _ _ W)
  generalize tmM x1 x2 x3 = ta at *
  generalize tmM y1 y2 y3 = tb at *
  obtain ⟨M, hM⟩ : ∃ M, w.heap.size = M := ⟨_, rfl⟩
  have HM := Lib.hid hM
  have B0 : Hid (Below M w ((w.alloc (.cells #[.int .i64 f, .int .i64 o, .int .i64 pn, .slice a T.length cap, .int .i64 x1, .int .i64 x2, .int .i64 x3, .int .i64 y1, .int .i64 y2, .int .i64 y3, .int .i64 e1, .int .i64 e2, .int .i64 e3, .int .i64 e4, .slice e5 e6 e7] 40)).alloc (.cells #[.int .i64 0, .string ⟨#[]⟩, .slice none 0 0, .int .i64 0, .int .i64 0, .string ⟨#[]⟩, .int .i64 0, .int .i64 0, .string ⟨#[]⟩, .int .i64 0, .string ⟨#[]⟩, .int .i64 0, .string ⟨#[]⟩, .int .i64 0, .int .i64 0, .slice none 0 0] 59))) := Lib.hid (by rw [← hM]; exact below2 w _ _)
  have Y0 : Hid (((w.alloc (.cells #[.int .i64 f, .int .i64 o, .int .i64 pn, .slice a T.length cap, .int .i64 x1, .int .i64 x2, .int .i64 x3, .int .i64 y1, .int .i64 y2, .int .i64 y3, .int .i64 e1, .int .i64 e2, .int .i64 e3, .int .i64 e4, .slice e5 e6 e7] 40)).alloc (.cells #[.int .i64 0, .string ⟨#[]⟩, .slice none 0 0, .int .i64 0, .int .i64 0, .string ⟨#[]⟩, .int .i64 0, .int .i64 0, .string ⟨#[]⟩, .int .i64 0, .string ⟨#[]⟩, .int .i64 0, .string ⟨#[]⟩, .int .i64 0, .int .i64 0, .slice none 0 0] 59)).heap[M]? = some (.cells #[.int .i64 f, .int .i64 o, .int .i64 pn, .slice a T.length cap, .int .i64 x1, .int .i64 x2, .int .i64 x3, .int .i64 y1, .int .i64 y2, .int .i64 y3, .int .i64 e1, .int .i64 e2, .int .i64 e3, .int .i64 e4, .slice e5 e6 e7] 40 (0, 0))) := Lib.hid (by rw [← hM]; exact (((Below.refl _ _).alloc (Nat.le_refl _) _).block _ (by simp)).trans (box16 w _ 40))
  have Z0 : Hid (((w.alloc (.cells #[.int .i64 f, .int .i64 o, .int .i64 pn, .slice a T.length cap, .int .i64 x1, .int .i64 x2, .int .i64 x3, .int .i64 y1, .int .i64 y2, .int .i64 y3, .int .i64 e1, .int .i64 e2, .int .i64 e3, .int .i64 e4, .slice e5 e6 e7] 40)).alloc (.cells #[.int .i64 0, .string ⟨#[]⟩, .slice none 0 0, .int .i64 0, .int .i64 0, .string ⟨#[]⟩, .int .i64 0, .int .i64 0, .string ⟨#[]⟩, .int .i64 0, .string ⟨#[]⟩, .int .i64 0, .string ⟨#[]⟩, .int .i64 0, .int .i64 0, .slice none 0 0] 59)).heap[M + 1]? = some (.cells #[.int .i64 0, .string ⟨#[]⟩, .slice none 0 0, .int .i64 0, .int .i64 0, .string ⟨#[]⟩, .int .i64 0, .int .i64 0, .string ⟨#[]⟩, .int .i64 0, .string ⟨#[]⟩, .int .i64 0, .string ⟨#[]⟩, .int .i64 0, .int .i64 0, .slice none 0 0] 59 (0, 0))) := Lib.hid (by rw [← hM]; exact rboxN w _ _ 59)
  have S0 : Hid (((w.alloc (.cells #[.int .i64 f, .int .i64 o, .int .i64 pn, .slice a T.length cap, .int .i64 x1, .int .i64 x2, .int .i64 x3, .int .i64 y1, .int .i64 y2, .int .i64 y3, .int .i64 e1, .int .i64 e2, .int .i64 e3, .int .i64 e4, .slice e5 e6 e7] 40)).alloc (.cells #[.int .i64 0, .string ⟨#[]⟩, .slice none 0 0, .int .i64 0, .int .i64 0, .string ⟨#[]⟩, .int .i64 0, .int .i64 0, .string ⟨#[]⟩, .int .i64 0, .string ⟨#[]⟩, .int .i64 0, .string ⟨#[]⟩, .int .i64 0, .int .i64 0, .slice none 0 0] 59)).heap.size = M + 2) := Lib.hid (by simp [hM])
  obtain ⟨n, hn⟩ : ∃ n, T.length = n := ⟨_, rfl⟩
  rw [hn] at B0 Y0 Z0 S0 ⊢
  clear hn hM hr
  have MX := HM.out
  go_enter Tryd.func17, Tryd.ntmps17
  go_wp2_with fail
  generalize World.alloc (World.alloc w _) _ = W0 at *
  have s0 : M + 2 ≤ W0.heap.size := by rw [S0.out]; omega
  have q0 : Below M w W0 := B0.out
  have bx : Box16 W0 (M + 1) := ⟨_, _, _, _, _, _, _, _, _, _, _, _, _, _, _, _, Z0.out⟩
  have ST : ∀ (W : World), Box16 W (M + 1) → (stM (.pointer (some ⟨M + 1, 0, none⟩)) (.agg #[.int .i64 2, .string ⟨#[]⟩, .slice none 0 0, .int .i64 op, .int .i64 ta.kind, .string ta.text, .int .i64 ta.n, .int .i64 tb.kind, .string tb.text, .int .i64 tb.n, .string ⟨#[]⟩, .int .i64 0, .string ⟨#[]⟩, .int .i64 0, .int .i64 0, .slice none 0 0])).run Tryd.prog W = .ok () (put16 W (M + 1) (.int .i64 2) (.string ⟨#[]⟩) (.slice none 0 0) (.int .i64 op) (.int .i64 ta.kind) (.string ta.text) (.int .i64 ta.n) (.int .i64 tb.kind) (.string tb.text) (.int .i64 tb.n) (.string ⟨#[]⟩) (.int .i64 0) (.string ⟨#[]⟩) (.int .i64 0) (.int .i64 0) (.slice none 0 0)) := fun W h => st_run _ _ _ _ _ _ _ _ _ _ _ _ _ _ _ _ _ _ _ _ h
  have q0d : Below M w W0.drew := q0.drew
  have s0d : M + 2 ≤ W0.drew.heap.size := s0
  have bxd : Box16 W0.drew (M + 1) := bx
  have Y0d : W0.drew.heap[M]? = _ := Y0.out
  go_region_held3 (fun w' => Below M w w' ∧ M + 2 ≤ w'.heap.size ∧ Box16 w' (M + 1) ∧ w'.heap[M]? = some (.cells #[.int .i64 f, .int .i64 o, .int .i64 pn, .slice a n cap, .int .i64 x1, .int .i64 x2, .int .i64 x3, .int .i64 y1, .int .i64 y2, .int .i64 y3, .int .i64 e1, .int .i64 e2, .int .i64 e3, .int .i64 e4, .slice e5 e6 e7] 40 (0, 0)) ∧ w'.cell? ⟨M, 1, none⟩ = some (.int .i64 o) ∧ w'.cell? ⟨M, 4, none⟩ = some (.int .i64 x1) ∧ w'.cell? ⟨M, 5, none⟩ = some (.int .i64 x2) ∧ w'.cell? ⟨M, 6, none⟩ = some (.int .i64 x3) ∧ w'.cell? ⟨M, 7, none⟩ = some (.int .i64 y1) ∧ w'.cell? ⟨M, 8, none⟩ = some (.int .i64 y2) ∧ w'.cell? ⟨M, 9, none⟩ = some (.int .i64 y3))
    (first | (with_reducible exact kepSc q0d s0d bxd Y0d) | (with_reducible exact kepCc ‹Below M w _ ∧ _ ∧ _ ∧ _ ∧ _ ∧ _ ∧ _ ∧ _ ∧ _ ∧ _ ∧ _› ‹Below _ _ _›) | (with_reducible exact kepPc _ _ _ _ _ _ _ _ _ _ _ _ _ _ _ _ ‹Below M w _ ∧ _ ∧ _ ∧ _ ∧ _ ∧ _ ∧ _ ∧ _ ∧ _ ∧ _ ∧ _›))
    (first
      | (go_at_call 11; (with_reducible refine (CA.out _).mono ?_); rintro e w4 ⟨rfl, hb4⟩)
      | (go_at_call 11; (with_reducible refine (CB.out _).mono ?_); rintro e w5 ⟨rfl, hb5⟩))
  have hc4 : Below W0.heap.size W0 w4 := Below.trans (Below.drew (Below.refl _ _)) hb4
  have s4 : M + 2 ≤ w4.heap.size := Nat.le_trans s0 hc4.size
  have y5 := (hb5.block (M + 1) (by omega)).trans ((hc4.block (M + 1) (by omega)).trans Z0.out)
  have b5 : Below M w w5 := (q0.trans (hc4.mono (by omega))).trans (hb5.mono (by omega))
  have E1 := Lib.hid (heap_set16 (.int .i64 2) (.string ⟨#[]⟩) (.slice none 0 0) (.int .i64 op) (.int .i64 ta.kind) (.string ta.text) (.int .i64 ta.n) (.int .i64 tb.kind) (.string tb.text) (.int .i64 tb.n) (.string ⟨#[]⟩) (.int .i64 0) (.string ⟨#[]⟩) (.int .i64 0) (.int .i64 0) (.slice none 0 0) y5)
  have R1 := Lib.hid (below_set16 (.int .i64 2) (.string ⟨#[]⟩) (.slice none 0 0) (.int .i64 op) (.int .i64 ta.kind) (.string ta.text) (.int .i64 ta.n) (.int .i64 tb.kind) (.string tb.text) (.int .i64 tb.n) (.string ⟨#[]⟩) (.int .i64 0) (.string ⟨#[]⟩) (.int .i64 0) (.int .i64 0) (.slice none 0 0) b5 (show M ≤ M + 1 by omega))
  clear y5 hb4 hb5 hc4 b5 bx ST q0d s0d bxd Y0d
  unfold put16
  go_wp2_with fail
  have d0 := cellAt (i := 0) E1.out rfl
  have d1 := cellAt (i := 1) E1.out rfl
  have d2 := cellAt (i := 2) E1.out rfl
  have d3 := cellAt (i := 3) E1.out rfl
  have d4 := cellAt (i := 4) E1.out rfl
  have d5 := cellAt (i := 5) E1.out rfl
  have d6 := cellAt (i := 6) E1.out rfl
  have d7 := cellAt (i := 7) E1.out rfl
  have d8 := cellAt (i := 8) E1.out rfl
  have d9 := cellAt (i := 9) E1.out rfl
  have d10 := cellAt (i := 10) E1.out rfl
  have d11 := cellAt (i := 11) E1.out rfl
  have d12 := cellAt (i := 12) E1.out rfl
  have d13 := cellAt (i := 13) E1.out rfl
  have d14 := cellAt (i := 14) E1.out rfl
  have d15 := cellAt (i := 15) E1.out rfl
  refine bodyPost_ret (v := .agg #[.int .i64 2, .string ⟨#[]⟩, .slice none 0 0, .int .i64 op, .int .i64 ta.kind, .string ta.text, .int .i64 ta.n, .int .i64 tb.kind, .string tb.text, .int .i64 tb.n, .string ⟨#[]⟩, .int .i64 0, .string ⟨#[]⟩, .int .i64 0, .int .i64 0, .slice none 0 0]) ?_ rfl ⟨rfl, by rw [HM.out]; exact R1.out⟩
  simp [results, Tryd.results17, go_sem, d0, d1, d2, d3, d4, d5, d6, d7, d8, d9, d10, d11, d12, d13, d14, d15]
end Go.Proofs.YtaglbeokecbihaaDoor
