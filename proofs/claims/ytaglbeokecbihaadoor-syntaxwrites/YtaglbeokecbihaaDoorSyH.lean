/- The part that is made of one that came in (P.Part). Written by mksyh.py. -/
import Derived.Test.YtaglbeokecbihaaDoorSyG
namespace Go.Proofs.YtaglbeokecbihaaDoor
open Go.RowKit
set_option linter.unusedVariables false
set_option linter.unusedSimpArgs false

/-- A part. -/
inductive Pt where
  | pos (pred : ByteArray) (l : List Tm)
  | neg (pred : ByteArray) (l : List Tm)
  | cmp (op : Nat) (ta tb : Tm)
  | letx (nm : ByteArray) (x : X)
def PtRet (w : World) (p : Pt) (e : Ending) (w' : World) : Prop := match p with
  | .pos pred l => ∃ a c, e = .returned (.agg #[.int .i64 0, .string pred, .slice a l.length c, .int .i64 0, .int .i64 0, .string ⟨#[]⟩, .int .i64 0, .int .i64 0, .string ⟨#[]⟩, .int .i64 0, .string ⟨#[]⟩, .int .i64 0, .string ⟨#[]⟩, .int .i64 0, .int .i64 0, .slice none 0 0]) ∧ TmFr w.heap.size w'.heap.size w' a l ∧ Below w.heap.size w w'
  | .neg pred l => ∃ a c, e = .returned (.agg #[.int .i64 1, .string pred, .slice a l.length c, .int .i64 0, .int .i64 0, .string ⟨#[]⟩, .int .i64 0, .int .i64 0, .string ⟨#[]⟩, .int .i64 0, .string ⟨#[]⟩, .int .i64 0, .string ⟨#[]⟩, .int .i64 0, .int .i64 0, .slice none 0 0]) ∧ TmFr w.heap.size w'.heap.size w' a l ∧ Below w.heap.size w w'
  | .cmp op ta tb => e = .returned (.agg #[.int .i64 2, .string ⟨#[]⟩, .slice none 0 0, .int .i64 op, .int .i64 ta.kind, .string ta.text, .int .i64 ta.n, .int .i64 tb.kind, .string tb.text, .int .i64 tb.n, .string ⟨#[]⟩, .int .i64 0, .string ⟨#[]⟩, .int .i64 0, .int .i64 0, .slice none 0 0]) ∧ Below w.heap.size w w'
  | .letx nm x => ∃ k1 k2 k3 k4 k5 k6 k7, e = .returned (.agg #[.int .i64 3, .string ⟨#[]⟩, .slice none 0 0, .int .i64 0, .int .i64 0, .string ⟨#[]⟩, .int .i64 0, .int .i64 0, .string ⟨#[]⟩, .int .i64 0, .string nm, .int .i64 k1, .string k2, .int .i64 k3, .int .i64 k4, .slice k5 k6 k7]) ∧ XI w.heap.size w'.heap.size w' x ⟨k1, k2, k3, k4, k5, k6, k7⟩ ∧ Below w.heap.size w w'
theorem rboxN (w : World) (a : Obj) (cs : Array Value) (T : TypeId) : ((w.alloc a).alloc (.cells cs T)).heap[w.heap.size + 1]? = some (.cells cs T (0, 0)) := by
  have := heap_alloc_new (w.alloc a) (.cells cs T)
  rwa [show (w.alloc a).heap.size = w.heap.size + 1 by simp] at this
theorem heap_set16 {w : World} {g : Nat} {T : TypeId} {z0 z1 z2 z3 z4 z5 z6 z7 z8 z9 z10 z11 z12 z13 z14 z15 : Value} (y0 y1 y2 y3 y4 y5 y6 y7 y8 y9 y10 y11 y12 y13 y14 y15 : Value) (h : w.heap[g]? = some (.cells #[z0, z1, z2, z3, z4, z5, z6, z7, z8, z9, z10, z11, z12, z13, z14, z15] T (0, 0))) : ((((((((((((((((w.setCell ⟨g, 0, none⟩ y0).setCell ⟨g, 1, none⟩ y1).setCell ⟨g, 2, none⟩ y2).setCell ⟨g, 3, none⟩ y3).setCell ⟨g, 4, none⟩ y4).setCell ⟨g, 5, none⟩ y5).setCell ⟨g, 6, none⟩ y6).setCell ⟨g, 7, none⟩ y7).setCell ⟨g, 8, none⟩ y8).setCell ⟨g, 9, none⟩ y9).setCell ⟨g, 10, none⟩ y10).setCell ⟨g, 11, none⟩ y11).setCell ⟨g, 12, none⟩ y12).setCell ⟨g, 13, none⟩ y13).setCell ⟨g, 14, none⟩ y14).setCell ⟨g, 15, none⟩ y15).heap[g]? = some (.cells #[y0, y1, y2, y3, y4, y5, y6, y7, y8, y9, y10, y11, y12, y13, y14, y15] T (0, 0)) := by
  simp [World.setCell, Array.getElem?_modify, h]
theorem other_set16 (w : World) {g k : Nat} (y0 y1 y2 y3 y4 y5 y6 y7 y8 y9 y10 y11 y12 y13 y14 y15 : Value) (hk : k ≠ g) : ((((((((((((((((w.setCell ⟨g, 0, none⟩ y0).setCell ⟨g, 1, none⟩ y1).setCell ⟨g, 2, none⟩ y2).setCell ⟨g, 3, none⟩ y3).setCell ⟨g, 4, none⟩ y4).setCell ⟨g, 5, none⟩ y5).setCell ⟨g, 6, none⟩ y6).setCell ⟨g, 7, none⟩ y7).setCell ⟨g, 8, none⟩ y8).setCell ⟨g, 9, none⟩ y9).setCell ⟨g, 10, none⟩ y10).setCell ⟨g, 11, none⟩ y11).setCell ⟨g, 12, none⟩ y12).setCell ⟨g, 13, none⟩ y13).setCell ⟨g, 14, none⟩ y14).setCell ⟨g, 15, none⟩ y15).heap[k]? = w.heap[k]? := by
  rw [Below.heap_setCell _ _ _ _ (fun e => hk e), Below.heap_setCell _ _ _ _ (fun e => hk e), Below.heap_setCell _ _ _ _ (fun e => hk e), Below.heap_setCell _ _ _ _ (fun e => hk e), Below.heap_setCell _ _ _ _ (fun e => hk e), Below.heap_setCell _ _ _ _ (fun e => hk e), Below.heap_setCell _ _ _ _ (fun e => hk e), Below.heap_setCell _ _ _ _ (fun e => hk e), Below.heap_setCell _ _ _ _ (fun e => hk e), Below.heap_setCell _ _ _ _ (fun e => hk e), Below.heap_setCell _ _ _ _ (fun e => hk e), Below.heap_setCell _ _ _ _ (fun e => hk e), Below.heap_setCell _ _ _ _ (fun e => hk e), Below.heap_setCell _ _ _ _ (fun e => hk e), Below.heap_setCell _ _ _ _ (fun e => hk e), Below.heap_setCell _ _ _ _ (fun e => hk e)]
theorem size_set16 (w : World) (g : Nat) (y0 y1 y2 y3 y4 y5 y6 y7 y8 y9 y10 y11 y12 y13 y14 y15 : Value) : ((((((((((((((((w.setCell ⟨g, 0, none⟩ y0).setCell ⟨g, 1, none⟩ y1).setCell ⟨g, 2, none⟩ y2).setCell ⟨g, 3, none⟩ y3).setCell ⟨g, 4, none⟩ y4).setCell ⟨g, 5, none⟩ y5).setCell ⟨g, 6, none⟩ y6).setCell ⟨g, 7, none⟩ y7).setCell ⟨g, 8, none⟩ y8).setCell ⟨g, 9, none⟩ y9).setCell ⟨g, 10, none⟩ y10).setCell ⟨g, 11, none⟩ y11).setCell ⟨g, 12, none⟩ y12).setCell ⟨g, 13, none⟩ y13).setCell ⟨g, 14, none⟩ y14).setCell ⟨g, 15, none⟩ y15).heap.size = w.heap.size := by simp [World.setCell]
theorem below_set16 {B : Nat} {w w' : World} {g : Nat} (y0 y1 y2 y3 y4 y5 y6 y7 y8 y9 y10 y11 y12 y13 y14 y15 : Value) (h : Below B w w') (hg : B ≤ g) : Below B w ((((((((((((((((w'.setCell ⟨g, 0, none⟩ y0).setCell ⟨g, 1, none⟩ y1).setCell ⟨g, 2, none⟩ y2).setCell ⟨g, 3, none⟩ y3).setCell ⟨g, 4, none⟩ y4).setCell ⟨g, 5, none⟩ y5).setCell ⟨g, 6, none⟩ y6).setCell ⟨g, 7, none⟩ y7).setCell ⟨g, 8, none⟩ y8).setCell ⟨g, 9, none⟩ y9).setCell ⟨g, 10, none⟩ y10).setCell ⟨g, 11, none⟩ y11).setCell ⟨g, 12, none⟩ y12).setCell ⟨g, 13, none⟩ y13).setCell ⟨g, 14, none⟩ y14).setCell ⟨g, 15, none⟩ y15) :=
  ((((((((((((((((h.setCell (p := ⟨g, 0, none⟩) hg _).setCell (p := ⟨g, 1, none⟩) hg _).setCell (p := ⟨g, 2, none⟩) hg _).setCell (p := ⟨g, 3, none⟩) hg _).setCell (p := ⟨g, 4, none⟩) hg _).setCell (p := ⟨g, 5, none⟩) hg _).setCell (p := ⟨g, 6, none⟩) hg _).setCell (p := ⟨g, 7, none⟩) hg _).setCell (p := ⟨g, 8, none⟩) hg _).setCell (p := ⟨g, 9, none⟩) hg _).setCell (p := ⟨g, 10, none⟩) hg _).setCell (p := ⟨g, 11, none⟩) hg _).setCell (p := ⟨g, 12, none⟩) hg _).setCell (p := ⟨g, 13, none⟩) hg _).setCell (p := ⟨g, 14, none⟩) hg _).setCell (p := ⟨g, 15, none⟩) hg _)
set_option maxRecDepth 100000 in
set_option maxHeartbeats 2000000 in
theorem part_pos (f o pn : Int) (a : Option Addr) (T : List TV) (cap : Nat) (x1 x2 x3 y1 y2 y3 e1 e2 e3 e4 : Int) (e5 : Option Addr) (e6 e7 : Nat) (w : World) (hf : uN f % 6 ≠ 3 ∧ uN f % 6 ≠ 4 ∧ uN f % 6 ≠ 5) {B : Nat} (hB : B ≤ w.heap.size) (hT : TIn B w a T) (hl : T.length ≤ 10) : Calls Tryd.prog 17 #[.agg #[.int .i64 f, .int .i64 o, .int .i64 pn, .slice a T.length cap, .int .i64 x1, .int .i64 x2, .int .i64 x3, .int .i64 y1, .int .i64 y2, .int .i64 y3, .int .i64 e1, .int .i64 e2, .int .i64 e3, .int .i64 e4, .slice e5 e6 e7]] w (PtRet w (.pos (predS (uN pn % 6)) (atomL T))) := by
  have hr := urem f 6 (by omega) (by omega)
  have hj : uN f % 6 < 6 := Nat.mod_lt _ (by omega)
  generalize uN f % 6 = j at *
  have n6 : wrap64 ((IntKind.u64.wrap f).tmod 6) = (j : Int) := hr
  have u3 : ((j : Int) == 3) = false := beq_eq_false_iff_ne.2 (by omega)
  have u4 : ((j : Int) == 4) = false := beq_eq_false_iff_ne.2 (by omega)
  have u5 : ((j : Int) == 5) = false := beq_eq_false_iff_ne.2 (by omega)
  obtain ⟨M, hM⟩ : ∃ M, w.heap.size = M := ⟨_, rfl⟩
  have HM := Lib.hid hM
  have B0 : Hid (Below M w ((w.alloc (.cells #[.int .i64 f, .int .i64 o, .int .i64 pn, .slice a T.length cap, .int .i64 x1, .int .i64 x2, .int .i64 x3, .int .i64 y1, .int .i64 y2, .int .i64 y3, .int .i64 e1, .int .i64 e2, .int .i64 e3, .int .i64 e4, .slice e5 e6 e7] 40)).alloc (.cells #[.int .i64 0, .string ⟨#[]⟩, .slice none 0 0, .int .i64 0, .int .i64 0, .string ⟨#[]⟩, .int .i64 0, .int .i64 0, .string ⟨#[]⟩, .int .i64 0, .string ⟨#[]⟩, .int .i64 0, .string ⟨#[]⟩, .int .i64 0, .int .i64 0, .slice none 0 0] 59))) := Lib.hid (by rw [← hM]; exact below2 w _ _)
  have Y0 : Hid (((w.alloc (.cells #[.int .i64 f, .int .i64 o, .int .i64 pn, .slice a T.length cap, .int .i64 x1, .int .i64 x2, .int .i64 x3, .int .i64 y1, .int .i64 y2, .int .i64 y3, .int .i64 e1, .int .i64 e2, .int .i64 e3, .int .i64 e4, .slice e5 e6 e7] 40)).alloc (.cells #[.int .i64 0, .string ⟨#[]⟩, .slice none 0 0, .int .i64 0, .int .i64 0, .string ⟨#[]⟩, .int .i64 0, .int .i64 0, .string ⟨#[]⟩, .int .i64 0, .string ⟨#[]⟩, .int .i64 0, .string ⟨#[]⟩, .int .i64 0, .int .i64 0, .slice none 0 0] 59)).heap[M]? = some (.cells #[.int .i64 f, .int .i64 o, .int .i64 pn, .slice a T.length cap, .int .i64 x1, .int .i64 x2, .int .i64 x3, .int .i64 y1, .int .i64 y2, .int .i64 y3, .int .i64 e1, .int .i64 e2, .int .i64 e3, .int .i64 e4, .slice e5 e6 e7] 40 (0, 0))) := Lib.hid (by rw [← hM]; exact (((Below.refl _ _).alloc (Nat.le_refl _) _).block _ (by simp)).trans (box16 w _ 40))
  have Z0 : Hid (((w.alloc (.cells #[.int .i64 f, .int .i64 o, .int .i64 pn, .slice a T.length cap, .int .i64 x1, .int .i64 x2, .int .i64 x3, .int .i64 y1, .int .i64 y2, .int .i64 y3, .int .i64 e1, .int .i64 e2, .int .i64 e3, .int .i64 e4, .slice e5 e6 e7] 40)).alloc (.cells #[.int .i64 0, .string ⟨#[]⟩, .slice none 0 0, .int .i64 0, .int .i64 0, .string ⟨#[]⟩, .int .i64 0, .int .i64 0, .string ⟨#[]⟩, .int .i64 0, .string ⟨#[]⟩, .int .i64 0, .string ⟨#[]⟩, .int .i64 0, .int .i64 0, .slice none 0 0] 59)).heap[M + 1]? = some (.cells #[.int .i64 0, .string ⟨#[]⟩, .slice none 0 0, .int .i64 0, .int .i64 0, .string ⟨#[]⟩, .int .i64 0, .int .i64 0, .string ⟨#[]⟩, .int .i64 0, .string ⟨#[]⟩, .int .i64 0, .string ⟨#[]⟩, .int .i64 0, .int .i64 0, .slice none 0 0] 59 (0, 0))) := Lib.hid (by rw [← hM]; exact rboxN w _ _ 59)
  have S0 : Hid (((w.alloc (.cells #[.int .i64 f, .int .i64 o, .int .i64 pn, .slice a T.length cap, .int .i64 x1, .int .i64 x2, .int .i64 x3, .int .i64 y1, .int .i64 y2, .int .i64 y3, .int .i64 e1, .int .i64 e2, .int .i64 e3, .int .i64 e4, .slice e5 e6 e7] 40)).alloc (.cells #[.int .i64 0, .string ⟨#[]⟩, .slice none 0 0, .int .i64 0, .int .i64 0, .string ⟨#[]⟩, .int .i64 0, .int .i64 0, .string ⟨#[]⟩, .int .i64 0, .string ⟨#[]⟩, .int .i64 0, .string ⟨#[]⟩, .int .i64 0, .int .i64 0, .slice none 0 0] 59)).heap.size = M + 2) := Lib.hid (by simp [hM])
  have CA := Lib.hid (atomOf_calls pn a T cap B ((w.alloc (.cells #[.int .i64 f, .int .i64 o, .int .i64 pn, .slice a T.length cap, .int .i64 x1, .int .i64 x2, .int .i64 x3, .int .i64 y1, .int .i64 y2, .int .i64 y3, .int .i64 e1, .int .i64 e2, .int .i64 e3, .int .i64 e4, .slice e5 e6 e7] 40)).alloc (.cells #[.int .i64 0, .string ⟨#[]⟩, .slice none 0 0, .int .i64 0, .int .i64 0, .string ⟨#[]⟩, .int .i64 0, .int .i64 0, .string ⟨#[]⟩, .int .i64 0, .string ⟨#[]⟩, .int .i64 0, .string ⟨#[]⟩, .int .i64 0, .int .i64 0, .slice none 0 0] 59)) (by rw [S0.out]; omega) (hT.on (B0.out.mono (by omega))) hl)
  clear hT hM hr
  generalize predS (uN pn % 6) = pr at *
  generalize atomL T = l at *
  obtain ⟨tn, htn⟩ : ∃ n, T.length = n := ⟨_, rfl⟩
  rw [htn] at CA B0 Y0 Z0 S0 ⊢
  clear htn
  have MX := HM.out
  go_enter Tryd.func17, Tryd.ntmps17
  go_wp2_with fail
  refine CA.out.mono ?_
  generalize World.alloc (World.alloc w _) _ = W0 at *
  rintro e w1 ⟨av, cv, rfl, hfr, hb1⟩
  have b1 : Below M w w1 := B0.out.trans (hb1.mono (by rw [S0.out]; omega))
  have z1 := (hb1.block (M + 1) (by rw [S0.out]; omega)).trans Z0.out
  have s1 : M + 2 ≤ w1.heap.size := by have := hb1.size; rw [S0.out] at this; exact this
  have c0 := cellAt (i := 0) z1 rfl
  have c1 := cellAt (i := 1) z1 rfl
  have c2 := cellAt (i := 2) z1 rfl
  have c3 := cellAt (i := 3) z1 rfl
  have c4 := cellAt (i := 4) z1 rfl
  have c5 := cellAt (i := 5) z1 rfl
  have c6 := cellAt (i := 6) z1 rfl
  have c7 := cellAt (i := 7) z1 rfl
  have c8 := cellAt (i := 8) z1 rfl
  have c9 := cellAt (i := 9) z1 rfl
  have c10 := cellAt (i := 10) z1 rfl
  have c11 := cellAt (i := 11) z1 rfl
  have c12 := cellAt (i := 12) z1 rfl
  have c13 := cellAt (i := 13) z1 rfl
  have c14 := cellAt (i := 14) z1 rfl
  have c15 := cellAt (i := 15) z1 rfl
  have fr : ∀ i, w1.frozen? ⟨M + 1, i, none⟩ = false := fun i => by simp only [World.frozen?, z1]; simp
  obtain ⟨n, hn⟩ : ∃ n, l.length = n := ⟨_, rfl⟩
  have HN := Lib.hid hn
  rw [hn]
  clear hn
  have E1 := Lib.hid (heap_set16 (.int .i64 0) (.string pr) (.slice av n cv) (.int .i64 0) (.int .i64 0) (.string ⟨#[]⟩) (.int .i64 0) (.int .i64 0) (.string ⟨#[]⟩) (.int .i64 0) (.string ⟨#[]⟩) (.int .i64 0) (.string ⟨#[]⟩) (.int .i64 0) (.int .i64 0) (.slice none 0 0) z1)
  have SZ := size_set16 w1 (M + 1) (.int .i64 0) (.string pr) (.slice av n cv) (.int .i64 0) (.int .i64 0) (.string ⟨#[]⟩) (.int .i64 0) (.int .i64 0) (.string ⟨#[]⟩) (.int .i64 0) (.string ⟨#[]⟩) (.int .i64 0) (.string ⟨#[]⟩) (.int .i64 0) (.int .i64 0) (.slice none 0 0)
  have R1 := Lib.hid (below_set16 (.int .i64 0) (.string pr) (.slice av n cv) (.int .i64 0) (.int .i64 0) (.string ⟨#[]⟩) (.int .i64 0) (.int .i64 0) (.string ⟨#[]⟩) (.int .i64 0) (.string ⟨#[]⟩) (.int .i64 0) (.string ⟨#[]⟩) (.int .i64 0) (.int .i64 0) (.slice none 0 0) b1 (show M ≤ M + 1 by omega))
  have F1 := Lib.hid ((hfr.on (fun q h1 _ => other_set16 w1 (g := M + 1) (.int .i64 0) (.string pr) (.slice av n cv) (.int .i64 0) (.int .i64 0) (.string ⟨#[]⟩) (.int .i64 0) (.int .i64 0) (.string ⟨#[]⟩) (.int .i64 0) (.string ⟨#[]⟩) (.int .i64 0) (.string ⟨#[]⟩) (.int .i64 0) (.int .i64 0) (.slice none 0 0) (by rw [S0.out] at h1; omega))).mono (L' := M) (N' := w1.heap.size) (by rw [S0.out]; omega) (Nat.le_refl _))
  rw [← SZ] at F1
  clear z1 hb1 b1 hfr CA SZ
  go_wp2_with fail
  have d0 := cellAt (i := 0) E1.out rfl
  have d1 := cellAt (i := 1) E1.out rfl
  have d2 := cellAt (i := 2) E1.out rfl
  have d3 := cellAt (i := 3) E1.out rfl
  have d4 := cellAt (i := 4) E1.out rfl
  have d5 := cellAt (i := 5) E1.out rfl
  have d6 := cellAt (i := 6) E1.out rfl
  have d7 := cellAt (i := 7) E1.out rfl
  have d8 := cellAt (i := 8) E1.out rfl
  have d9 := cellAt (i := 9) E1.out rfl
  have d10 := cellAt (i := 10) E1.out rfl
  have d11 := cellAt (i := 11) E1.out rfl
  have d12 := cellAt (i := 12) E1.out rfl
  have d13 := cellAt (i := 13) E1.out rfl
  have d14 := cellAt (i := 14) E1.out rfl
  have d15 := cellAt (i := 15) E1.out rfl
  refine bodyPost_ret (v := .agg #[.int .i64 0, .string pr, .slice av n cv, .int .i64 0, .int .i64 0, .string ⟨#[]⟩, .int .i64 0, .int .i64 0, .string ⟨#[]⟩, .int .i64 0, .string ⟨#[]⟩, .int .i64 0, .string ⟨#[]⟩, .int .i64 0, .int .i64 0, .slice none 0 0]) ?_ rfl ⟨av, cv, by rw [HN.out], by rw [HM.out]; exact F1.out, by rw [HM.out]; exact R1.out⟩
  simp [results, Tryd.results17, go_sem, d0, d1, d2, d3, d4, d5, d6, d7, d8, d9, d10, d11, d12, d13, d14, d15]
set_option maxRecDepth 100000 in
set_option maxHeartbeats 2000000 in
theorem part_neg (f o pn : Int) (a : Option Addr) (T : List TV) (cap : Nat) (x1 x2 x3 y1 y2 y3 e1 e2 e3 e4 : Int) (e5 : Option Addr) (e6 e7 : Nat) (w : World) (hf : uN f % 6 = 3) {B : Nat} (hB : B ≤ w.heap.size) (hT : TIn B w a T) (hl : T.length ≤ 10) : Calls Tryd.prog 17 #[.agg #[.int .i64 f, .int .i64 o, .int .i64 pn, .slice a T.length cap, .int .i64 x1, .int .i64 x2, .int .i64 x3, .int .i64 y1, .int .i64 y2, .int .i64 y3, .int .i64 e1, .int .i64 e2, .int .i64 e3, .int .i64 e4, .slice e5 e6 e7]] w (PtRet w (.neg (predS (uN pn % 6)) (atomL T))) := by
  have n6 : wrap64 ((IntKind.u64.wrap f).tmod 6) = 3 := by have := urem f 6 (by omega) (by omega); rw [hf] at this; exact this
  obtain ⟨M, hM⟩ : ∃ M, w.heap.size = M := ⟨_, rfl⟩
  have HM := Lib.hid hM
  have B0 : Hid (Below M w ((w.alloc (.cells #[.int .i64 f, .int .i64 o, .int .i64 pn, .slice a T.length cap, .int .i64 x1, .int .i64 x2, .int .i64 x3, .int .i64 y1, .int .i64 y2, .int .i64 y3, .int .i64 e1, .int .i64 e2, .int .i64 e3, .int .i64 e4, .slice e5 e6 e7] 40)).alloc (.cells #[.int .i64 0, .string ⟨#[]⟩, .slice none 0 0, .int .i64 0, .int .i64 0, .string ⟨#[]⟩, .int .i64 0, .int .i64 0, .string ⟨#[]⟩, .int .i64 0, .string ⟨#[]⟩, .int .i64 0, .string ⟨#[]⟩, .int .i64 0, .int .i64 0, .slice none 0 0] 59))) := Lib.hid (by rw [← hM]; exact below2 w _ _)
  have Y0 : Hid (((w.alloc (.cells #[.int .i64 f, .int .i64 o, .int .i64 pn, .slice a T.length cap, .int .i64 x1, .int .i64 x2, .int .i64 x3, .int .i64 y1, .int .i64 y2, .int .i64 y3, .int .i64 e1, .int .i64 e2, .int .i64 e3, .int .i64 e4, .slice e5 e6 e7] 40)).alloc (.cells #[.int .i64 0, .string ⟨#[]⟩, .slice none 0 0, .int .i64 0, .int .i64 0, .string ⟨#[]⟩, .int .i64 0, .int .i64 0, .string ⟨#[]⟩, .int .i64 0, .string ⟨#[]⟩, .int .i64 0, .string ⟨#[]⟩, .int .i64 0, .int .i64 0, .slice none 0 0] 59)).heap[M]? = some (.cells #[.int .i64 f, .int .i64 o, .int .i64 pn, .slice a T.length cap, .int .i64 x1, .int .i64 x2, .int .i64 x3, .int .i64 y1, .int .i64 y2, .int .i64 y3, .int .i64 e1, .int .i64 e2, .int .i64 e3, .int .i64 e4, .slice e5 e6 e7] 40 (0, 0))) := Lib.hid (by rw [← hM]; exact (((Below.refl _ _).alloc (Nat.le_refl _) _).block _ (by simp)).trans (box16 w _ 40))
  have Z0 : Hid (((w.alloc (.cells #[.int .i64 f, .int .i64 o, .int .i64 pn, .slice a T.length cap, .int .i64 x1, .int .i64 x2, .int .i64 x3, .int .i64 y1, .int .i64 y2, .int .i64 y3, .int .i64 e1, .int .i64 e2, .int .i64 e3, .int .i64 e4, .slice e5 e6 e7] 40)).alloc (.cells #[.int .i64 0, .string ⟨#[]⟩, .slice none 0 0, .int .i64 0, .int .i64 0, .string ⟨#[]⟩, .int .i64 0, .int .i64 0, .string ⟨#[]⟩, .int .i64 0, .string ⟨#[]⟩, .int .i64 0, .string ⟨#[]⟩, .int .i64 0, .int .i64 0, .slice none 0 0] 59)).heap[M + 1]? = some (.cells #[.int .i64 0, .string ⟨#[]⟩, .slice none 0 0, .int .i64 0, .int .i64 0, .string ⟨#[]⟩, .int .i64 0, .int .i64 0, .string ⟨#[]⟩, .int .i64 0, .string ⟨#[]⟩, .int .i64 0, .string ⟨#[]⟩, .int .i64 0, .int .i64 0, .slice none 0 0] 59 (0, 0))) := Lib.hid (by rw [← hM]; exact rboxN w _ _ 59)
  have S0 : Hid (((w.alloc (.cells #[.int .i64 f, .int .i64 o, .int .i64 pn, .slice a T.length cap, .int .i64 x1, .int .i64 x2, .int .i64 x3, .int .i64 y1, .int .i64 y2, .int .i64 y3, .int .i64 e1, .int .i64 e2, .int .i64 e3, .int .i64 e4, .slice e5 e6 e7] 40)).alloc (.cells #[.int .i64 0, .string ⟨#[]⟩, .slice none 0 0, .int .i64 0, .int .i64 0, .string ⟨#[]⟩, .int .i64 0, .int .i64 0, .string ⟨#[]⟩, .int .i64 0, .string ⟨#[]⟩, .int .i64 0, .string ⟨#[]⟩, .int .i64 0, .int .i64 0, .slice none 0 0] 59)).heap.size = M + 2) := Lib.hid (by simp [hM])
  have CA := Lib.hid (atomOf_calls pn a T cap B ((w.alloc (.cells #[.int .i64 f, .int .i64 o, .int .i64 pn, .slice a T.length cap, .int .i64 x1, .int .i64 x2, .int .i64 x3, .int .i64 y1, .int .i64 y2, .int .i64 y3, .int .i64 e1, .int .i64 e2, .int .i64 e3, .int .i64 e4, .slice e5 e6 e7] 40)).alloc (.cells #[.int .i64 0, .string ⟨#[]⟩, .slice none 0 0, .int .i64 0, .int .i64 0, .string ⟨#[]⟩, .int .i64 0, .int .i64 0, .string ⟨#[]⟩, .int .i64 0, .string ⟨#[]⟩, .int .i64 0, .string ⟨#[]⟩, .int .i64 0, .int .i64 0, .slice none 0 0] 59)) (by rw [S0.out]; omega) (hT.on (B0.out.mono (by omega))) hl)
  clear hT hM
  generalize predS (uN pn % 6) = pr at *
  generalize atomL T = l at *
  obtain ⟨tn, htn⟩ : ∃ n, T.length = n := ⟨_, rfl⟩
  rw [htn] at CA B0 Y0 Z0 S0 ⊢
  clear htn
  have MX := HM.out
  go_enter Tryd.func17, Tryd.ntmps17
  go_wp2_with fail
  refine CA.out.mono ?_
  generalize World.alloc (World.alloc w _) _ = W0 at *
  rintro e w1 ⟨av, cv, rfl, hfr, hb1⟩
  have b1 : Below M w w1 := B0.out.trans (hb1.mono (by rw [S0.out]; omega))
  have z1 := (hb1.block (M + 1) (by rw [S0.out]; omega)).trans Z0.out
  have s1 : M + 2 ≤ w1.heap.size := by have := hb1.size; rw [S0.out] at this; exact this
  have c0 := cellAt (i := 0) z1 rfl
  have c1 := cellAt (i := 1) z1 rfl
  have c2 := cellAt (i := 2) z1 rfl
  have c3 := cellAt (i := 3) z1 rfl
  have c4 := cellAt (i := 4) z1 rfl
  have c5 := cellAt (i := 5) z1 rfl
  have c6 := cellAt (i := 6) z1 rfl
  have c7 := cellAt (i := 7) z1 rfl
  have c8 := cellAt (i := 8) z1 rfl
  have c9 := cellAt (i := 9) z1 rfl
  have c10 := cellAt (i := 10) z1 rfl
  have c11 := cellAt (i := 11) z1 rfl
  have c12 := cellAt (i := 12) z1 rfl
  have c13 := cellAt (i := 13) z1 rfl
  have c14 := cellAt (i := 14) z1 rfl
  have c15 := cellAt (i := 15) z1 rfl
  have fr : ∀ i, w1.frozen? ⟨M + 1, i, none⟩ = false := fun i => by simp only [World.frozen?, z1]; simp
  obtain ⟨n, hn⟩ : ∃ n, l.length = n := ⟨_, rfl⟩
  have HN := Lib.hid hn
  rw [hn]
  clear hn
  have E1 := Lib.hid (heap_set16 (.int .i64 1) (.string pr) (.slice av n cv) (.int .i64 0) (.int .i64 0) (.string ⟨#[]⟩) (.int .i64 0) (.int .i64 0) (.string ⟨#[]⟩) (.int .i64 0) (.string ⟨#[]⟩) (.int .i64 0) (.string ⟨#[]⟩) (.int .i64 0) (.int .i64 0) (.slice none 0 0) z1)
  have SZ := size_set16 w1 (M + 1) (.int .i64 1) (.string pr) (.slice av n cv) (.int .i64 0) (.int .i64 0) (.string ⟨#[]⟩) (.int .i64 0) (.int .i64 0) (.string ⟨#[]⟩) (.int .i64 0) (.string ⟨#[]⟩) (.int .i64 0) (.string ⟨#[]⟩) (.int .i64 0) (.int .i64 0) (.slice none 0 0)
  have R1 := Lib.hid (below_set16 (.int .i64 1) (.string pr) (.slice av n cv) (.int .i64 0) (.int .i64 0) (.string ⟨#[]⟩) (.int .i64 0) (.int .i64 0) (.string ⟨#[]⟩) (.int .i64 0) (.string ⟨#[]⟩) (.int .i64 0) (.string ⟨#[]⟩) (.int .i64 0) (.int .i64 0) (.slice none 0 0) b1 (show M ≤ M + 1 by omega))
  have F1 := Lib.hid ((hfr.on (fun q h1 _ => other_set16 w1 (g := M + 1) (.int .i64 1) (.string pr) (.slice av n cv) (.int .i64 0) (.int .i64 0) (.string ⟨#[]⟩) (.int .i64 0) (.int .i64 0) (.string ⟨#[]⟩) (.int .i64 0) (.string ⟨#[]⟩) (.int .i64 0) (.string ⟨#[]⟩) (.int .i64 0) (.int .i64 0) (.slice none 0 0) (by rw [S0.out] at h1; omega))).mono (L' := M) (N' := w1.heap.size) (by rw [S0.out]; omega) (Nat.le_refl _))
  rw [← SZ] at F1
  clear z1 hb1 b1 hfr CA SZ
  go_wp2_with fail
  have d0 := cellAt (i := 0) E1.out rfl
  have d1 := cellAt (i := 1) E1.out rfl
  have d2 := cellAt (i := 2) E1.out rfl
  have d3 := cellAt (i := 3) E1.out rfl
  have d4 := cellAt (i := 4) E1.out rfl
  have d5 := cellAt (i := 5) E1.out rfl
  have d6 := cellAt (i := 6) E1.out rfl
  have d7 := cellAt (i := 7) E1.out rfl
  have d8 := cellAt (i := 8) E1.out rfl
  have d9 := cellAt (i := 9) E1.out rfl
  have d10 := cellAt (i := 10) E1.out rfl
  have d11 := cellAt (i := 11) E1.out rfl
  have d12 := cellAt (i := 12) E1.out rfl
  have d13 := cellAt (i := 13) E1.out rfl
  have d14 := cellAt (i := 14) E1.out rfl
  have d15 := cellAt (i := 15) E1.out rfl
  refine bodyPost_ret (v := .agg #[.int .i64 1, .string pr, .slice av n cv, .int .i64 0, .int .i64 0, .string ⟨#[]⟩, .int .i64 0, .int .i64 0, .string ⟨#[]⟩, .int .i64 0, .string ⟨#[]⟩, .int .i64 0, .string ⟨#[]⟩, .int .i64 0, .int .i64 0, .slice none 0 0]) ?_ rfl ⟨av, cv, by rw [HN.out], by rw [HM.out]; exact F1.out, by rw [HM.out]; exact R1.out⟩
  simp [results, Tryd.results17, go_sem, d0, d1, d2, d3, d4, d5, d6, d7, d8, d9, d10, d11, d12, d13, d14, d15]
end Go.Proofs.YtaglbeokecbihaaDoor
