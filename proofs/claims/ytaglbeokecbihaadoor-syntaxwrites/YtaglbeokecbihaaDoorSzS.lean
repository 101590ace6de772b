/- Rules that are made of rules that came in (R.Rule). Written by mkszs.py. -/
import Derived.Test.YtaglbeokecbihaaDoorSzP
namespace Go.Proofs.YtaglbeokecbihaaDoor
open Go.RowKit
set_option linter.unusedVariables false
set_option linter.unusedSimpArgs false

/-- The rule under way: its box at P, its parts a row behind it. -/
structure RW (M P : Nat) (w : World) (pred : ByteArray) (a : Option Addr) (l : List Tm) (c : Nat) (ag : Int) (v : Value) (ps : List Pt) (W : World) : Prop where
  bel : Below M w W
  res : W.heap[M + 1]? = some (.cells #[.string ⟨#[]⟩, .slice none 0 0, .int .i64 0, .slice none 0 0, .int .i64 0] 71 (0, 0))
  box : W.heap[P]? = some (.cells #[.string pred, .slice a l.length c, .int .i64 ag, v, .int .i64 0] 71 (0, 0))
  head : TmFr (M + 2) P W a l
  row : PRow (P + 1) W v ps
  sz : P + 1 ≤ W.heap.size
  lo : M + 2 ≤ P
theorem RW.below {M P : Nat} {w : World} {pred : ByteArray} {a : Option Addr} {l : List Tm} {c : Nat} {ag : Int} {v : Value} {ps : List Pt} {W W' : World} (h : RW M P w pred a l c ag v ps W) (hb : Below W.heap.size W W') : RW M P w pred a l c ag v ps W' := by
  have hs := h.sz
  have hl := h.lo
  exact ⟨h.bel.trans (hb.mono (by omega)), (hb.block _ (by omega)).trans h.res, (hb.block _ (by omega)).trans h.box, h.head.on (fun k _ h2 => hb.block k (by omega)), h.row.on hb.size (fun k _ h2 => hb.block k h2), Nat.le_trans hs hb.size, hl⟩
theorem heap_set71 {w : World} {g : Nat} {T : TypeId} {x0 x1 x2 x3 x4 y3 : Value} (h : w.heap[g]? = some (.cells #[x0, x1, x2, x3, x4] T (0, 0))) : (w.setCell ⟨g, 3, none⟩ y3).heap[g]? = some (.cells #[x0, x1, x2, y3, x4] T (0, 0)) := by
  simp [World.setCell, Array.getElem?_modify, h]
theorem heap_set72 {w : World} {g : Nat} {T : TypeId} {x0 x1 x2 x3 x4 y2 : Value} (h : w.heap[g]? = some (.cells #[x0, x1, x2, x3, x4] T (0, 0))) : (w.setCell ⟨g, 2, none⟩ y2).heap[g]? = some (.cells #[x0, x1, y2, x3, x4] T (0, 0)) := by
  simp [World.setCell, Array.getElem?_modify, h]
/-- Behind a part that was made and appended, before the box is written. -/
theorem RW.app {M P : Nat} {w : World} {pred : ByteArray} {a : Option Addr} {l : List Tm} {c : Nat} {ag : Int} {v : Value} {ps : List Pt} {W W5 : World} (h : RW M P w pred a l c ag v ps W) (hb5 : Below W.heap.size W W5) {p : Pt} {v0 v1 v2 v3 v4 v5 v6 v7 v8 v9 v10 v11 v12 v13 v14 v15 : Value} (hk : ∀ q : Option Nat, (∀ b, q = some b → b < W.heap.size) → PtK W.heap.size q W5 p #[v0, v1, v2, v3, v4, v5, v6, v7, v8, v9, v10, v11, v12, v13, v14, v15]) (h1 : ∀ u ∈ [v0, v1, v2, v3, v4, v5, v6, v7, v8, v9, v10, v11, v12, v13, v14, v15], u.oneCell' = true) (hl : ps.length ≤ 1000) {H : Nat} (hH : W5.heap.size = H) :
    ∃ va vn vc W7, (appM #[69, 69] 69 #[v, .slice (some ⟨H, 0, none⟩) 1 1]).run Tryd.prog (W5.alloc (.cells #[v0, v1, v2, v3, v4, v5, v6, v7, v8, v9, v10, v11, v12, v13, v14, v15] 59)) = .ok (.slice va vn vc) W7 ∧ W7.heap[P]? = some (.cells #[.string pred, .slice a l.length c, .int .i64 ag, v, .int .i64 0] 71 (0, 0)) ∧ RW M P w pred a l c ag (.slice va vn vc) (ps ++ [p]) (W7.setCell ⟨P, 3, none⟩ (.slice va vn vc)) := by
  have hs := h.sz
  have hlo := h.lo
  obtain ⟨v', W7, hrun, hrow, hg⟩ := h.row.app hs hb5 hk h1 hl hH
  obtain ⟨va, vc, rfl, _⟩ := hrow.shape
  have s5 := hb5.size
  have h5 := (h.below hb5).below ((Below.refl _ _).alloc (Nat.le_refl _) (.cells #[v0, v1, v2, v3, v4, v5, v6, v7, v8, v9, v10, v11, v12, v13, v14, v15] 59))
  obtain ⟨av, cv, _, hlt⟩ := h.row.shape
  have nb : ∀ k, k ≤ P → some k ≠ v.ownBlock := fun k hk e => by have := (hlt k e.symm).1; omega
  have hsa : (W5.alloc (.cells #[v0, v1, v2, v3, v4, v5, v6, v7, v8, v9, v10, v11, v12, v13, v14, v15] 59)).heap.size = W5.heap.size + 1 := by simp
  have s7 := hg.size
  rw [hsa] at s7
  have hbox := (hg.block P (by omega) (nb P (by omega))).trans h5.box
  have oth : ∀ r, r ≠ P → (W7.setCell ⟨P, 3, none⟩ (.slice va (ps ++ [p]).length vc)).heap[r]? = W7.heap[r]? := fun r hr => Below.heap_setCell _ _ _ _ (fun e => hr e)
  have ss : (W7.setCell ⟨P, 3, none⟩ (.slice va (ps ++ [p]).length vc)).heap.size = W7.heap.size := by simp [World.setCell]
  refine ⟨va, _, vc, W7, hrun, hbox, ⟨(h5.bel.grown hg (by omega) (fun k e => by have := (hlt k e).1; omega)).setCell (p := ⟨P, 3, none⟩) (by show M ≤ P; omega) _, (oth _ (by omega)).trans ((hg.block _ (by omega) (nb _ (by omega))).trans h5.res), heap_set71 hbox, h5.head.on (fun k _ h2 => (oth k (by omega)).trans (hg.block k (by omega) (nb k (by omega)))), hrow.on (by omega) (fun k h1 _ => oth k (by omega)), by omega, hlo⟩⟩
/-- What a rule's making leaves. -/
def RuleRet (w : World) (pred : ByteArray) (l : List Tm) (ag : Int) (ps : List Pt) (e : Ending) (w' : World) : Prop := ∃ a c b d, e = .returned (.agg #[.string pred, .slice a l.length c, .int .i64 ag, .slice b ps.length d, .int .i64 0]) ∧ Below w.heap.size w w' ∧ (∀ w'' : World, (∀ k, w.heap.size ≤ k → k < w'.heap.size → w''.heap[k]? = w'.heap[k]?) → TmRow w'.heap.size w'' a l ∧ PtRow w'.heap.size w'' b ps) ∧ (ag ≠ 0 → l.length ≤ c)
theorem RW.fin {M P : Nat} {w : World} {pred : ByteArray} {a : Option Addr} {l : List Tm} {c : Nat} {ag : Int} {v : Value} {ps : List Pt} {W W' : World} (h : RW M P w pred a l c ag v ps W) (hM : w.heap.size = M) (hs : W'.heap.size = W.heap.size) (hb : Below M w W') (ho : ∀ k, k ≠ M + 1 → W'.heap[k]? = W.heap[k]?) (hcap : ag ≠ 0 → l.length ≤ c) : RuleRet w pred l ag ps (.returned (.agg #[.string pred, .slice a l.length c, .int .i64 ag, v, .int .i64 0])) W' := by
  obtain ⟨b, d, rfl, hr⟩ := h.row.read
  have h1 := h.sz
  have h2 := h.lo
  refine ⟨a, c, b, d, rfl, by rw [hM]; exact hb, fun w'' hk => ?_, hcap⟩
  rw [hM] at hk
  rw [hs] at hk ⊢
  exact ⟨((h.head.on (fun k h3 h4 => (hk k (by omega) (by omega)).trans (ho k (by omega)))).mono (Nat.le_refl _) (show P ≤ W.heap.size by omega)).into, hr w'' (fun k h3 h4 => (hk k (by omega) h4).trans (ho k (by omega)))⟩
theorem rbox71 (w : World) (cs ds : Array Value) (T T' : TypeId) : ((w.alloc (.cells cs T)).alloc (.cells ds T')).heap[w.heap.size]? = some (.cells cs T (0, 0)) ∧ ((w.alloc (.cells cs T)).alloc (.cells ds T')).heap[w.heap.size + 1]? = some (.cells ds T' (0, 0)) :=
  ⟨(((Below.refl _ _).alloc (Nat.le_refl _) _).block _ (by simp)).trans (box16 w _ _), rboxN w _ _ _⟩
end Go.Proofs.YtaglbeokecbihaaDoor
