import Derived.Test.YtaglbeokecbihaaDoorSzJ
import Derived.Test.YtaglbeokecbihaaDoorSzW
import Derived.Deep.RegionHeld3
import Derived.Deep.CutRange
/- A program under way: two rows behind a box. -/
namespace Go.Proofs.YtaglbeokecbihaaDoor
open Go.RowKit
set_option linter.unusedVariables false
set_option linter.unusedSimpArgs false

def dcs (d : DV) : List Value := [.string d.1, .bool d.2.1, .int .i64 d.2.2]
theorem dcs_len (l : List DV) : (l.flatMap dcs).length = l.length * 3 := by
  induction l with
  | nil => rfl
  | cons d l ih => rw [List.flatMap_cons, List.length_append, ih, List.length_cons]; show 3 + _ = _; omega
theorem dcs_at : ∀ (l : List DV) (i j : Nat), i < l.length → j < 3 → (l.flatMap dcs)[i * 3 + j]? = (dcs (deAt l i))[j]?
  | [], i, j, hi, _ => by simp at hi
  | d :: l, 0, j, _, hj => by rw [List.flatMap_cons, List.getElem?_append_left (by show _ < 3; omega), Nat.zero_mul, Nat.zero_add]; rfl
  | d :: l, i + 1, j, hi, hj => by
    rw [List.flatMap_cons, List.getElem?_append_right (by show 3 ≤ _; omega), show (i + 1) * 3 + j - (dcs d).length = i * 3 + j by show _ - 3 = _; omega, dcs_at l i j (by simpa using hi) hj]
    rfl
structure PW (M : Nat) (w : World) (ds : List DV) (rs : List RV) (vd vr : Value) (W : World) : Prop where
  bel : Below M w W
  box : W.heap[M]? = some (.cells #[vd, vr] 83 (0, 0))
  dro : W.ownsRow (M + 1) 88 3 vd ds.length (ds.flatMap dcs)
  rro : RRow (M + 1) W vr rs
  sz : M + 1 ≤ W.heap.size
theorem PW.below {M : Nat} {w : World} {ds : List DV} {rs : List RV} {vd vr : Value} {W W' : World} (h : PW M w ds rs vd vr W) (hb : Below W.heap.size W W') : PW M w ds rs vd vr W' :=
  ⟨h.bel.trans (hb.mono (by have := h.sz; omega)), (hb.block _ (by have := h.sz; omega)).trans h.box, owns_on h.dro (fun r _ h2 => hb.block r h2), h.rro.on hb.size (fun r _ h2 => hb.block r h2), Nat.le_trans h.sz hb.size⟩
theorem drow_shape {L : Nat} {W : World} {v : Value} {n : Nat} {xs : List Value} (h : W.ownsRow L 88 3 v n xs) : ∃ a c, v = .slice a n c ∧ ∀ b, v.ownBlock = some b → L ≤ b ∧ ∃ cur, W.heap[b]? = some (.cells cur 88 (0, 0)) := by
  rcases h.2 with ⟨rfl, rfl⟩ | ⟨g, cap, cur, rfl, hb, hh, _⟩
  · exact ⟨none, 0, rfl, fun b hb => by cases hb⟩
  · exact ⟨_, cap, rfl, fun b hb' => by cases hb'; exact ⟨hb, cur, hh⟩⟩
theorem rrow_shape {L : Nat} {W : World} {v : Value} {rs : List RV} (h : RRow L W v rs) : ∃ a c, v = .slice a rs.length c ∧ ∀ b, v.ownBlock = some b → L ≤ b ∧ ∃ cur, W.heap[b]? = some (.cells cur 71 (0, 0)) := by
  obtain ⟨css, h1, h2, h3, h4⟩ := h
  rcases h3.2 with ⟨rfl, h0⟩ | ⟨g, cap, cur, rfl, hb, hh, _⟩
  · exact ⟨none, 0, by rw [h0], fun b hb => by cases hb⟩
  · exact ⟨_, cap, rfl, fun b hb' => by cases hb'; exact ⟨hb, cur, hh⟩⟩
theorem apart {W : World} {b : Nat} {cu cv : Array Value} (h1 : W.heap[b]? = some (.cells cu 88 (0, 0))) (h2 : W.heap[b]? = some (.cells cv 71 (0, 0))) : False := by
  rw [h1] at h2; injection h2 with h2; injection h2 with _ h3; exact absurd h3 (by decide)
theorem heap_setP0 {w : World} {g : Nat} {T : TypeId} {x0 x1 y : Value} (h : w.heap[g]? = some (.cells #[x0, x1] T (0, 0))) : (w.setCell ⟨g, 0, none⟩ y).heap[g]? = some (.cells #[y, x1] T (0, 0)) := by
  simp [World.setCell, Array.getElem?_modify, h]
theorem heap_setP1 {w : World} {g : Nat} {T : TypeId} {x0 x1 y : Value} (h : w.heap[g]? = some (.cells #[x0, x1] T (0, 0))) : (w.setCell ⟨g, 1, none⟩ y).heap[g]? = some (.cells #[x0, y] T (0, 0)) := by
  simp [World.setCell, Array.getElem?_modify, h]
theorem i88 : (Tryd.prog.info? 88).map (fun i => (i.zero, i.size, i.bytes)) = some (some (.agg #[.string ⟨#[]⟩, .bool false, .int .i64 0]), 3, 32) := by kernel_rfl
/-- A declaration, appended. -/
theorem PW.appD {M : Nat} {w : World} {ds : List DV} {vd vr : Value} {W : World} (h : PW M w ds [] vd vr W) {d : DV} {s : ByteArray} {b : Bool} {x : Int} (hd : d = (s, b, x)) (hl : ds.length ≤ 1000) {H : Nat} (hH : W.heap.size = H) (hv : vr = .slice none 0 0) :
    ∃ va vn vc W7, (appM #[80, 80] 80 #[vd, .slice (some ⟨H, 0, none⟩) 1 1]).run Tryd.prog (W.alloc (.cells #[.string s, .bool b, .int .i64 x] 88)) = .ok (.slice va vn vc) W7 ∧ W7.heap[M]? = some (.cells #[vd, vr] 83 (0, 0)) ∧ PW M w (ds ++ [d]) [] (.slice va vn vc) vr (W7.setCell ⟨M, 0, none⟩ (.slice va vn vc)) ∧ (W.alloc (.cells #[.string s, .bool b, .int .i64 x] 88)).grownBy W7 vd.ownBlock := by
  subst hH hd hv
  have hs := h.sz
  obtain ⟨i0, hi0, hz0, hz1, hz2⟩ : ∃ i0, Tryd.prog.info? 88 = some i0 ∧ i0.zero = some (.agg #[.string ⟨#[]⟩, .bool false, .int .i64 0]) ∧ i0.size = 3 ∧ i0.bytes = 32 := by
    have h9 := i88
    cases hi : Tryd.prog.info? 88 with
    | none => rw [hi] at h9; cases h9
    | some i =>
      rw [hi] at h9
      simp only [Option.map_some, Option.some.injEq, Prod.mk.injEq] at h9
      exact ⟨i, rfl, h9.1, h9.2.1, h9.2.2⟩
  have h5 := h.below ((Below.refl W.heap.size W).alloc (Nat.le_refl _) (.cells #[.string s, .bool b, .int .i64 x] 88))
  have hsa : (W.alloc (.cells #[.string s, .bool b, .int .i64 x] 88)).heap.size = W.heap.size + 1 := by simp
  have zc := box16 W #[.string s, .bool b, .int .i64 x] 88
  obtain ⟨v', W7, hr, hown, hg, _, hat⟩ := run_append_own_at (P := Tryd.prog) (W.alloc (.cells #[.string s, .bool b, .int .i64 x] 88)) (M + 1) 80 80 88 i0 _ 3 32 Tryd.underlying80 hi0 hz0 hz1 hz2 rfl (by decide) vd ds.length (ds.flatMap dcs) h5.dro ⟨W.heap.size, 0, none⟩ 1 1 [.string s, .bool b, .int .i64 x] rfl (cell_three_new W _ _ _ 88) (fun u hu => by
    simp only [List.mem_cons, List.not_mem_nil, or_false] at hu
    rcases hu with rfl | rfl | rfl <;> rfl) (by unfold maxLen; omega) (by omega) (by omega)
  obtain ⟨va, vc, rfl, _⟩ := drow_shape hown
  obtain ⟨_, _, _, hlt⟩ := drow_shape h5.dro
  have nb : ∀ k, k ≤ M → some k ≠ vd.ownBlock := fun k hk e => by have := (hlt k e.symm).1; omega
  have s7 := hg.size
  have hbox := (hg.block M (by omega) (nb M (by omega))).trans h5.box
  have oth : ∀ r, r ≠ M → (W7.setCell ⟨M, 0, none⟩ (.slice va (ds.length + 1) vc)).heap[r]? = W7.heap[r]? := fun r hr => Below.heap_setCell _ _ _ _ (fun e => hr e)
  have ss : (W7.setCell ⟨M, 0, none⟩ (.slice va (ds.length + 1) vc)).heap.size = W7.heap.size := by simp [World.setCell]
  refine ⟨va, _, vc, W7, hr, hbox, ?_, hg⟩
  refine ⟨(h5.bel.grown hg (by omega) (fun k e => by have := (hlt k e).1; omega)).setCell (p := ⟨M, 0, none⟩) (by show M ≤ M; omega) _, heap_setP0 hbox, ?_, rrow_nil _ _, by omega⟩
  have e : (ds ++ [(s, b, x)]).flatMap dcs = ds.flatMap dcs ++ [.string s, .bool b, .int .i64 x] := by rw [List.flatMap_append]; rfl
  rw [e, List.length_append]
  exact owns_on hown (fun r h1 _ => oth r (by omega))
theorem keepD {M i : Nat} {W W7 : World} {o : Obj} {v u : Value} {k : Nat} (hg : (W.alloc o).grownBy W7 v.ownBlock) (hk : k < W.heap.size) (hM : k ≠ M) (hv : ∀ b, v.ownBlock = some b → b ≠ k) : (W7.setCell ⟨M, i, none⟩ u).heap[k]? = W.heap[k]? :=
  (Below.heap_setCell _ _ _ _ (fun e => hM e)).trans ((hg.block k (by simp; omega) (fun e => hv k e.symm rfl)).trans (((Below.refl _ _).alloc (Nat.le_refl _) _).block k hk))
theorem PW.ownD {M : Nat} {w : World} {ds : List DV} {rs : List RV} {vd vr : Value} {W : World} (h : PW M w ds rs vd vr W) : ∀ b, vd.ownBlock = some b → b < W.heap.size := fun b hb => by
  obtain ⟨_, _, _, hl⟩ := drow_shape h.dro
  obtain ⟨_, cu, hc⟩ := hl b hb
  exact (Array.getElem?_eq_some_iff.1 hc).1
theorem PW.ownR {M : Nat} {w : World} {ds : List DV} {rs : List RV} {vd vr : Value} {W : World} (h : PW M w ds rs vd vr W) : ∀ b, vr.ownBlock = some b → b < W.heap.size := fun b hb => by
  obtain ⟨_, _, _, hl⟩ := rrow_shape h.rro
  obtain ⟨_, cu, hc⟩ := hl b hb
  exact (Array.getElem?_eq_some_iff.1 hc).1
/-- A rule, appended. -/
theorem PW.appR {M : Nat} {w : World} {ds : List DV} {rs : List RV} {vd vr : Value} {W : World} (h : PW M w ds rs vd vr W) {r : RV} {v0 v1 v2 v3 v4 : Value} (hk : RuK (M + 1) vr.ownBlock W r [v0, v1, v2, v3, v4]) (h1 : ∀ u ∈ [v0, v1, v2, v3, v4], u.oneCell' = true) (hl : rs.length ≤ 1000) {H : Nat} (hH : W.heap.size = H) :
    ∃ va vn vc W7, (appM #[81, 81] 81 #[vr, .slice (some ⟨H, 0, none⟩) 1 1]).run Tryd.prog (W.alloc (.cells #[v0, v1, v2, v3, v4] 71)) = .ok (.slice va vn vc) W7 ∧ W7.heap[M]? = some (.cells #[vd, vr] 83 (0, 0)) ∧ PW M w ds (rs ++ [r]) vd (.slice va vn vc) (W7.setCell ⟨M, 1, none⟩ (.slice va vn vc)) ∧ (W.alloc (.cells #[v0, v1, v2, v3, v4] 71)).grownBy W7 vr.ownBlock := by
  subst hH
  have hs := h.sz
  obtain ⟨v', W7, hrun, hrow, hg⟩ := h.rro.app hs hk h1 hl rfl
  obtain ⟨va, vc, rfl, _⟩ := hrow.shape
  have h5 := h.below ((Below.refl W.heap.size W).alloc (Nat.le_refl _) (.cells #[v0, v1, v2, v3, v4] 71))
  have hsa : (W.alloc (.cells #[v0, v1, v2, v3, v4] 71)).heap.size = W.heap.size + 1 := by simp
  obtain ⟨_, _, _, hlt⟩ := rrow_shape h5.rro
  obtain ⟨_, _, _, hld⟩ := drow_shape h5.dro
  have nb : ∀ k, k ≤ M → some k ≠ vr.ownBlock := fun k hk e => by have := (hlt k e.symm).1; omega
  have s7 := hg.size
  have hbox := (hg.block M (by omega) (nb M (by omega))).trans h5.box
  have oth : ∀ q, q ≠ M → (W7.setCell ⟨M, 1, none⟩ (.slice va (rs ++ [r]).length vc)).heap[q]? = W7.heap[q]? := fun q hr => Below.heap_setCell _ _ _ _ (fun e => hr e)
  have ss : (W7.setCell ⟨M, 1, none⟩ (.slice va (rs ++ [r]).length vc)).heap.size = W7.heap.size := by simp [World.setCell]
  have hk7 : W7.ownsRow (M + 1) 88 3 vd ds.length (ds.flatMap dcs) := h5.dro.kept hg (by
    cases hv : vd.ownBlock with
    | none => exact .inl rfl
    | some b => exact .inr (fun e => by
        obtain ⟨_, cu, hcu⟩ := hld b hv
        obtain ⟨_, cv, hcv⟩ := hlt b e.symm
        exact apart hcu hcv))
  exact ⟨va, _, vc, W7, hrun, hbox, ⟨(h5.bel.grown hg (by omega) (fun k e => by have := (hlt k e).1; omega)).setCell (p := ⟨M, 1, none⟩) (by show M ≤ M; omega) _, heap_setP1 hbox, owns_on hk7 (fun r h1 _ => oth r (by omega)), hrow.on (by omega) (fun k h1 _ => oth k (by omega)), by omega⟩, hg⟩
/-- What Program leaves. -/
def ProgRet (w : World) (nd nr : Nat) (e : Ending) (w' : World) : Prop := ∃ ds rs vd dc vr rc, e = .returned (.tuple #[.pointer (some ⟨w.heap.size, 0, none⟩), .string ⟨(progB ds rs).toArray⟩]) ∧ ds.length = nd ∧ rs.length = nr ∧ PW w.heap.size w ds rs (.slice vd ds.length dc) (.slice vr rs.length rc) w' ∧ (∀ d ∈ ds, d.1.size ≤ 100) ∧ (∀ r ∈ rs, RuOK r) ∧ (∀ r ∈ rs, (ruB r).length ≤ 22001)
theorem PW.dRow {M : Nat} {w : World} {ds : List DV} {rs : List RV} {a : Option Addr} {c : Nat} {vr : Value} {W : World} (h : PW M w ds rs (.slice a ds.length c) vr W) : DRow W.heap.size W a ds := by
  rcases h.dro.2 with ⟨e, h0⟩ | ⟨g, cap, cur, e, hb, hh, _⟩
  · exact .inl (List.length_eq_zero_iff.1 h0)
  · cases e
    refine .inr ⟨g, rfl, (Array.getElem?_eq_some_iff.1 hh).1, fun i hi => ?_⟩
    have cl : ∀ j, j < 3 → W.cell? ⟨g, i * 3 + j, none⟩ = (dcs (deAt ds i))[j]? := fun j hj => by
      rw [World.ownsRow.cellAt h.dro (i * 3 + j) (by omega), dcs_at ds i j hi hj]
    exact ⟨cl 0 (by omega), cl 1 (by omega), cl 2 (by omega)⟩
theorem PW.ruRow {M : Nat} {w : World} {ds : List DV} {rs : List RV} {a : Option Addr} {c : Nat} {vd : Value} {W : World} (h : PW M w ds rs vd (.slice a rs.length c) W) : RuRow W.heap.size W a rs := by
  intro w' hb
  by_cases h0 : rs = []
  · exact .inl h0
  · obtain ⟨g, cap, x0, x1, x2, x3, x4, e, _⟩ := h.rro.at (i := 0) (List.length_pos_iff.2 h0) (w' := w') (fun k _ h2 => hb.block k h2)
    injection e with e1 e2 e3
    refine .inr ⟨g, e1, fun i hi => ?_⟩
    obtain ⟨g', cap', x0, x1, x2, x3, x4, e, hv, f0, f1, f2, f3, f4⟩ := h.rro.at (i := i) hi (w' := w') (fun k _ h2 => hb.block k h2)
    injection e with e4 e5 e6
    rw [e1] at e4
    injection e4 with e4
    injection e4 with e4
    subst e4
    exact ⟨x0, x1, x2, x3, x4, hv, f0, f1, f2, f3, f4⟩
end Go.Proofs.YtaglbeokecbihaaDoor

/- Program. Written by mkszl.py. -/
namespace Go.Proofs.YtaglbeokecbihaaDoor
open Go.RowKit
attribute [local go_sem ↓] app_rule
set_option linter.unusedVariables false
set_option linter.unusedSimpArgs false

def diAt (l : List (Int × Bool)) (i : Nat) : Int × Bool := l[i]?.getD (0, false)
def DIn (B : Nat) (w : World) (a : Option Addr) (D : List (Int × Bool)) : Prop := D = [] ∨ ∃ b off, a = some ⟨b, off, none⟩ ∧ b < B ∧ ∀ i, i < D.length → w.cell? ⟨b, off + i * 2, none⟩ = some (.int .i64 (diAt D i).1) ∧ w.cell? ⟨b, off + i * 2 + 1, none⟩ = some (.bool (diAt D i).2)
theorem DIn.at {B : Nat} {w w' : World} {a : Option Addr} {D : List (Int × Bool)} (h : DIn B w a D) (hb : Below B w w') {i : Nat} (hi : i < D.length) : ∃ b off, a = some ⟨b, off, none⟩ ∧ b < B ∧ w'.cell? ⟨b, off + i * 2, none⟩ = some (.int .i64 (diAt D i).1) ∧ w'.cell? ⟨b, off + i * 2 + 1, none⟩ = some (.bool (diAt D i).2) := by
  rcases h with h0 | ⟨b, off, ha, hlt, hc⟩
  · subst h0; simp at hi
  · exact ⟨b, off, ha, hlt, (hb.cell (p := ⟨b, _, none⟩) hlt).trans (hc i hi).1, (hb.cell (p := ⟨b, _, none⟩) hlt).trans (hc i hi).2⟩
theorem cell_lt {w : World} {g i : Nat} {v : Value} (h : w.cell? ⟨g, i, none⟩ = some v) : g < w.heap.size := by
  rcases Nat.lt_or_ge g w.heap.size with h1 | h1
  · exact h1
  · simp [World.cell?, Array.getElem?_eq_none h1] at h
theorem heap_set3 {w : World} {g : Nat} {T : TypeId} {x0 x1 x2 y0 y1 y2 : Value} (h : w.heap[g]? = some (.cells #[x0, x1, x2] T (0, 0))) : (((w.setCell ⟨g, 0, none⟩ y0).setCell ⟨g, 1, none⟩ y1).setCell ⟨g, 2, none⟩ y2).heap[g]? = some (.cells #[y0, y1, y2] T (0, 0)) := by
  simp [World.setCell, Array.getElem?_modify, h]
theorem progB_snoc (ds : List DV) (d : DV) : progB (ds ++ [d]) [] = progB ds [] ++ deB d := by simp [progB, List.flatMap_append]
theorem progB_rsnoc (ds : List DV) (rs : List RV) (r : RV) : progB ds (rs ++ [r]) = progB ds rs ++ ruB r := by simp [progB, List.flatMap_append]
theorem deB_true (l : Bytes) (s : ByteArray) (x : Int) : ⟨l.toArray⟩ ++ ⟨#[64, 109, 97, 120, 32]⟩ ++ s ++ ⟨#[46, 10]⟩ = (⟨(l ++ deB (s, true, x)).toArray⟩ : ByteArray) := by
  apply ByteArray.ext; simp [deB, declB, bs]
theorem deB_false (l : Bytes) (s : ByteArray) (x : Int) : ⟨l.toArray⟩ ++ ⟨#[64, 109, 105, 110, 32]⟩ ++ s ++ ⟨#[46, 10]⟩ = (⟨(l ++ deB (s, false, x)).toArray⟩ : ByteArray) := by
  apply ByteArray.ext; simp [deB, declB, bs]
theorem ruB_cat (l b : Bytes) (r : RV) (e : b = ruleB r.ag r.pred r.l r.ps) : ⟨l.toArray⟩ ++ ⟨b.toArray⟩ ++ ⟨#[10]⟩ = (⟨(l ++ ruB r).toArray⟩ : ByteArray) := by
  subst e; apply ByteArray.ext; simp [ruB]
set_option maxRecDepth 100000 in
set_option maxHeartbeats 4000000 in
theorem program_calls (da : Option Addr) (D : List (Int × Bool)) (dc : Nat) (ra : Option Addr) (R : List RT) (rc B : Nat) (w : World) (hB : B ≤ w.heap.size) (hD : DIn B w da D) (hR : RIn B w ra R) (hs : STab w) (hdl : D.length ≤ 6) (hf : few R) : Calls Tryd.prog 8 #[.slice da D.length dc, .slice ra R.length rc] w (ProgRet w D.length R.length) := by
  obtain ⟨M, hM⟩ : ∃ M, w.heap.size = M := ⟨_, rfl⟩
  have HM := Lib.hid hM
  have h6 : 6 ≤ M := by have := hs.sz; omega
  have hBM : B ≤ M := by omega
  have HD := Lib.hid hD
  have HR := Lib.hid hR
  have HS := Lib.hid hs
  have HF := Lib.hid hf.2
  have hrl := hf.1
  obtain ⟨nd, hnd⟩ : ∃ n, D.length = n := ⟨_, rfl⟩
  obtain ⟨nr, hnr⟩ : ∃ n, R.length = n := ⟨_, rfl⟩
  have HND := Lib.hid hnd
  have HNR := Lib.hid hnr
  rw [hnd, hnr]
  rw [hnd] at hdl
  rw [hnr] at hrl
  have z0 : (w.alloc (.cells #[.slice none 0 0, .slice none 0 0] 83)).heap[M]? = some (.cells #[.slice none 0 0, .slice none 0 0] 83 (0, 0)) := by rw [← hM]; exact box16 w _ _
  have P0 : Hid (PW M w [] [] (.slice none 0 0) (.slice none 0 0) (w.alloc (.cells #[.slice none 0 0, .slice none 0 0] 83))) := Lib.hid ⟨(Below.refl M w).alloc (by omega) _, z0, World.ownsRow_nil _ _ _ _, rrow_nil _ _, by simp [hM]⟩
  clear hD hR hs hf hM hnd hnr z0
  have MX := HM.out
  go_enter Tryd.func8, Tryd.ntmps8
  go_wp2_with fail
  go_loopw [7, 18] (fun t i wr => ∃ (k : Nat) (ds : List DV) (v : Value), k ≤ nd ∧ i = .int .i64 k ∧ t = .string ⟨(progB ds []).toArray⟩ ∧ Hid (ds.length = k) ∧ Hid (PW M w ds [] v (.slice none 0 0) wr) ∧ Hid (∀ d ∈ ds, d.1.size ≤ 100)) (fun _ i _ => nd - (intOf i).toNat)
  case atStart => exact ⟨0, [], _, Nat.zero_le _, rfl, rfl, Lib.hid rfl, P0, Lib.hid (fun d h9 => by cases h9)⟩
  case round =>
    obtain ⟨k, ds, v, hk, rfl, rfl, HL, HP, HZ⟩ := hrel
    by_cases hlt : k < nd
    · have hlD : k < D.length := by rw [HND.out]; exact hlt
      obtain ⟨bb, off, hadr, hbb, f0, f1⟩ := HD.out.at (HP.out.bel.mono hBM) hlD
      generalize diAt D k = d at *
      obtain ⟨p, mx⟩ := d
      simp only at f0 f1
      subst hadr
      obtain ⟨m, hm⟩ : ∃ m, wr.heap.size = m := ⟨_, rfl⟩
      have hMm : M + 1 ≤ m := by have := HP.out.sz; omega
      have HP1 := Lib.hid (HP.out.below ((Below.refl _ _).alloc (Nat.le_refl _) (.cells #[.int .i64 p, .bool mx] 85)))
      have Y1 : (wr.alloc (.cells #[.int .i64 p, .bool mx] 85)).heap[m]? = some (.cells #[.int .i64 p, .bool mx] 85 (0, 0)) := by rw [← hm]; exact box16 wr _ _
      have S1 : Hid ((wr.alloc (.cells #[.int .i64 p, .bool mx] 85)).heap.size = m + 1) := Lib.hid (by simp [hm])
      have c0 := cellAt (i := 0) Y1 rfl
      have c1 := cellAt (i := 1) Y1 rfl
      have HY1 := Lib.hid Y1
      clear Y1
      have CP := Lib.hid (fun W => pred_calls p W)
      have PS : Hid ((predS (uN p % 6)).size ≤ 100) := Lib.hid (Nat.le_trans (predS_size _ (Nat.mod_lt _ (by omega))) (by omega))
      generalize predS (uN p % 6) = ps at *
      have SZ : Hid (((⟨(progB ds []).toArray⟩ : ByteArray).size : Int) = ((progB ds []).length : Int)) := Lib.hid (by rw [size_lit])
      have QT : Hid (progB (ds ++ [(ps, mx, ((progB ds []).length : Int))]) [] = progB ds [] ++ deB (ps, mx, ((progB ds []).length : Int))) := Lib.hid (progB_snoc _ _)
      have HL1 : Hid ((ds ++ [(ps, mx, ((progB ds []).length : Int))]).length = k + 1) := Lib.hid (by rw [List.length_append, HL.out]; rfl)
      have HZ1 : Hid (∀ d ∈ ds ++ [(ps, mx, ((progB ds []).length : Int))], d.1.size ≤ 100) := Lib.hid (fun d h9 => by
        rcases List.mem_append.1 h9 with h9 | h9
        · exact HZ.out d h9
        · rw [List.mem_singleton.1 h9]; exact PS.out)
      have LA : Hid ((progB ds []).length ≤ 700) := Lib.hid (by
        have := flat_le (f := deB) (c := 107) ds (fun d h9 => deB_len (HZ.out d h9))
        rw [HL.out] at this
        simp only [progB, List.flatMap_nil, List.append_nil]; omega)
      have DL : Hid (ds.length ≤ 1000) := Lib.hid (by rw [HL.out]; omega)
      generalize progB ds [] = acc at *
      generalize hds2 : ds ++ [(ps, mx, (acc.length : Int))] = ds2 at *
      have HDS := Lib.hid hds2.symm
      clear hds2
      go_wp2_with fail
      generalize World.alloc wr _ = W1 at *
      have MX1 := S1.out
      have HM1 : Hid (W1.heap.size ≤ m + 1) := Lib.hid (by rw [MX1]; exact Nat.le_refl _)
      have HA : Hid (Below W1.heap.size W1 (W1.alloc (.cells #[.string ⟨#[]⟩, .bool false, .int .i64 0] 88)).drew) := Lib.hid ((Below.refl _ _).alloc (Nat.le_refl _) _).drew
      have HZA : Hid ((W1.alloc (.cells #[.string ⟨#[]⟩, .bool false, .int .i64 0] 88)).drew.heap[m + 1]? = some (.cells #[.string ⟨#[]⟩, .bool false, .int .i64 0] 88 (0, 0))) := Lib.hid (by rw [← MX1]; exact box16 W1 _ _)
      have HLT : Hid (m + 1 < (W1.alloc (.cells #[.string ⟨#[]⟩, .bool false, .int .i64 0] 88)).drew.heap.size) := Lib.hid (by show m + 1 < (W1.alloc _).heap.size; simp [MX1])
      have SD : Hid (Below W1.heap.size W1 W1.drew ∧ W1.drew.cell? ⟨m, 0, none⟩ = some (.int .i64 p) ∧ W1.drew.cell? ⟨m, 1, none⟩ = some (.bool mx)) := Lib.hid ⟨(Below.refl _ _).drew, c0, c1⟩
      have KP := Lib.hid (fun (w'' : World) (hb : Below W1.heap.size W1 w'') => (show Below W1.heap.size W1 w'' ∧ w''.cell? ⟨m, 0, none⟩ = some (.int .i64 p) ∧ w''.cell? ⟨m, 1, none⟩ = some (.bool mx) from ⟨hb, (hb.cell (p := ⟨m, 0, none⟩) (by have := S1.out; show m < _; omega)).trans c0, (hb.cell (p := ⟨m, 1, none⟩) (by have := S1.out; show m < _; omega)).trans c1⟩))
      go_cut [10, 18] from 18 to 54 (fun q i wx => ∃ q', q = .pointer (some ⟨q', 0, none⟩) ∧ i = .int .i64 k ∧ m + 1 ≤ q' ∧ Hid (Below W1.heap.size W1 wx) ∧ Hid (wx.heap[q']? = some (.cells #[.string ps, .bool mx, .int .i64 (acc.length : Nat)] 88 (0, 0))))
      case first =>
        go_region_held3 (fun w' => Below W1.heap.size W1 w' ∧ w'.cell? ⟨m, 0, none⟩ = some (.int .i64 p) ∧ w'.cell? ⟨m, 1, none⟩ = some (.bool mx))
          (first | (with_reducible exact SD.out) | (with_reducible assumption) | (with_reducible exact KP.out _ (Below.alloc hB5 hB5.size _)) | (with_reducible exact KP.out _ (Below.setCell (Below.setCell (Below.setCell hB5 (p := ⟨m + 1, 0, none⟩) HM1.out _) (p := ⟨m + 1, 1, none⟩) HM1.out _) (p := ⟨m + 1, 2, none⟩) HM1.out _)) | (with_reducible exact KP.out _ HA.out) | fail)
          (first
            | (go_at_call 33; (with_reducible refine (CP.out _).mono ?_); rintro e w5 ⟨rfl, hb5⟩; first | (have hB5 : Below W1.heap.size W1 w5 := Below.trans (Below.refl _ _).drew hb5; have K5 := KP.out _ hB5) | (have hB5 : Below W1.heap.size W1 w5 := HA.out.trans (Below.mono hb5 HA.out.size); have K5 := KP.out _ hB5; have Z5 := (Below.block hb5 (m + 1) HLT.out).trans HZA.out; have e0 := cellAt (i := 0) Z5 rfl; have e1 := cellAt (i := 1) Z5 rfl; have e2 := cellAt (i := 2) Z5 rfl; have u8 : ∀ i, w5.frozen? ⟨m + 1, i, none⟩ = false := fun i => (by simp [World.frozen?, Z5]))))
        all_goals clear CP HD HR HS HF P0
        all_goals go_wp2_with fail
        all_goals go_meet
        · exact ⟨_, rfl, rfl, by have := hB5.size; omega, Lib.hid (hB5.alloc hB5.size _), Lib.hid (box16 w5 _ _)⟩
        · exact ⟨_, rfl, rfl, Nat.le_refl _, Lib.hid (((hB5.setCell (p := ⟨m + 1, 0, none⟩) HM1.out _).setCell (p := ⟨m + 1, 1, none⟩) HM1.out _).setCell (p := ⟨m + 1, 2, none⟩) HM1.out _), Lib.hid (heap_set3 Z5)⟩
      case rest =>
        obtain ⟨q, rfl, rfl, hq, HB5, HZ5⟩ := hcut
        rename World => W6
        have Q6 : Hid (PW M w ds [] v (.slice none 0 0) W6) := Lib.hid (HP1.out.below HB5.out)
        clear CP HA HZA HLT SD KP MX1 c0 c1
        obtain ⟨va, vn, vc, W7, hrun0, hbox7, A7, hg7⟩ := (Q6.out.below (Below.refl _ _).drew).appD (d := (ps, mx, (acc.length : Int))) rfl DL.out (H := W6.heap.size) rfl rfl
        rw [← HDS.out] at A7
        have hrun : (appM #[80, 80] 80 #[v, .slice (some ⟨W6.heap.size, 0, none⟩) 1 1]).run Tryd.prog (W6.alloc (.cells #[.string ps, .bool mx, .int .i64 (acc.length : Nat)] 88)).drew = .ok (.slice va vn vc) W7 := hrun0
        have A8 := Lib.hid A7
        have HOW : ∀ b, v.ownBlock = some b → b < m := fun b hb => by rw [← hm]; exact HP.out.ownD b hb
        have X8 : (W7.setCell ⟨M, 0, none⟩ (.slice va vn vc)).heap[m]? = some (.cells #[.int .i64 p, .bool mx] 85 (0, 0)) := (keepD (W := W6.drew) hg7 (show m < W6.heap.size by have := HB5.out.size; have := S1.out; omega) (by omega) (fun b hb => by have := HOW b hb; omega)).trans ((HB5.out.block m (by have := S1.out; omega)).trans HY1.out)
        have Z8 : (W7.setCell ⟨M, 0, none⟩ (.slice va vn vc)).heap[q]? = some (.cells #[.string ps, .bool mx, .int .i64 (acc.length : Nat)] 88 (0, 0)) := (keepD (W := W6.drew) hg7 (Array.getElem?_eq_some_iff.1 HZ5.out).1 (by omega) (fun b hb => by have := HOW b hb; omega)).trans HZ5.out
        have x1 := cellAt (i := 1) X8 rfl
        have z0 := cellAt (i := 0) Z8 rfl
        have b0 := cellAt (i := 0) Q6.out.box rfl
        have b1 := cellAt (i := 0) (Q6.out.below ((Below.refl _ _).alloc (Nat.le_refl _) (.cells #[.string ps, .bool mx, .int .i64 (acc.length : Nat)] 88))).box rfl
        have q0 := cellAt (i := 0) HZ5.out rfl
        have q1 := cellAt (i := 1) HZ5.out rfl
        have q2 := cellAt (i := 2) HZ5.out rfl
        have u7 := cellAt (i := 0) hbox7 rfl
        have u8 : ∀ i, W7.frozen? ⟨M, i, none⟩ = false := fun i => by simp [World.frozen?, hbox7]
        clear hrun0 A7 hbox7 hg7 HOW X8 Z8
        go_wp2_with fail
        go_region
        generalize World.setCell W7 _ _ = W8 at *
        clear b0 b1 q0 q1 q2 u7 u8 hrun
        have la := LA.out
        have lp := PS.out
        cases mx with
        | true =>
          have TX : Hid ((⟨acc.toArray⟩ ++ ⟨#[64, 109, 97, 120, 32]⟩ ++ ps ++ ⟨#[46, 10]⟩ : ByteArray) = ⟨(progB ds2 []).toArray⟩) := Lib.hid (by rw [QT.out]; exact deB_true _ _ _)
          go_wp2_with fail
          go_roundw
          case rel => exact ⟨k + 1, ds2, _, by omega, by go_num, congrArg Value.string TX.out, HL1, A8, HZ1⟩
          case measure => simp [intOf]; omega
        | false =>
          have TX : Hid ((⟨acc.toArray⟩ ++ ⟨#[64, 109, 105, 110, 32]⟩ ++ ps ++ ⟨#[46, 10]⟩ : ByteArray) = ⟨(progB ds2 []).toArray⟩) := Lib.hid (by rw [QT.out]; exact deB_false _ _ _)
          go_wp2_with fail
          go_roundw
          case rel => exact ⟨k + 1, ds2, _, by omega, by go_num, congrArg Value.string TX.out, HL1, A8, HZ1⟩
          case measure => simp [intOf]; omega
    · obtain rfl : k = nd := by omega
      clear P0
      go_wp2_with fail
      go_loopw [7, 57] (fun t i wr => ∃ (j : Nat) (rs : List RV) (u : Value), j ≤ nr ∧ i = .int .i64 j ∧ t = .string ⟨(progB ds rs).toArray⟩ ∧ Hid (rs.length = j) ∧ Hid (PW M w ds rs v u wr) ∧ Hid (∀ r ∈ rs, RuOK r) ∧ Hid (∀ r ∈ rs, (ruB r).length ≤ 22001)) (fun _ i _ => nr - (intOf i).toNat)
      case atStart => exact ⟨0, [], _, Nat.zero_le _, rfl, rfl, Lib.hid rfl, HP, Lib.hid (fun r h9 => by cases h9), Lib.hid (fun r h9 => by cases h9)⟩
      case round =>
        obtain ⟨j, rs, u, hj, rfl, rfl, HLr, HPr, HO, HBB⟩ := hrel
        obtain ⟨Y, rfl⟩ : ∃ x, x = wr := ⟨wr, rfl⟩
        by_cases hjt : j < nr
        · have hlR : j < R.length := by rw [HNR.out]; exact hjt
          obtain ⟨bb, off, cs, hadr, hbb, hrc, hcell⟩ := (HR.out.on (HPr.out.bel.mono hBM)).at hlR
          have hfr := HF.out _ (raAt_mem hlR)
          generalize raAt R j = r at *
          have B1 : Below Y.heap.size Y (Y.alloc (.cells cs.toArray 67)) := (Below.refl _ _).alloc (Nat.le_refl _) _
          have CR := Lib.hid (rule_calls (hrc.on (B1.mono (by have := HPr.out.bel.size; omega))) (by have := HPr.out.bel.size; simp; omega) hfr)
          obtain ⟨a0, c0, b0, d0, rfl, hT, hPP⟩ := hrc
          obtain ⟨hf1, hf2, hf3⟩ := hfr
          obtain ⟨hl1, hl6⟩ := headL_len r.agg hf1
          have hpl : (r.body.map ptT).length ≤ 8 := by rw [List.length_map]; exact hf2
          have hsm : ∀ p ∈ r.body.map ptT, smallP p := fun p h9 => by
            obtain ⟨p0, h8, rfl⟩ := List.mem_map.1 h9
            exact ptT_small (hf3 p0 h8)
          have hps : (predS (uN r.hd % 6)).size ≤ 100 := predS_100 _
          obtain ⟨ag, hag, hag5⟩ : ∃ ag : Nat, agM r.agg = (ag : Int) ∧ ag < 5 := by
            unfold agM
            split
            · rename_i h9; exact ⟨(bits .and .i64 r.agg 15).toNat, by omega, by omega⟩
            · exact ⟨0, rfl, by omega⟩
          rw [hag] at CR
          have f0 := hcell 0 _ rfl
          have f1 := hcell 1 _ rfl
          have f2 := hcell 2 _ rfl
          have f3 := hcell 3 _ rfl
          rw [Nat.add_zero] at f0
          clear hcell hf1 hf2 hf3 hag hT hPP
          generalize headL r.agg r.T = l at *
          generalize r.body.map ptT = pts at *
          generalize predS (uN r.hd % 6) = pr at *
          obtain ⟨rh, rT, rg, rb⟩ := r
          simp only at f0 f1 f2 f3 CR B1
          generalize rT.length = nT at *
          generalize rb.length = nb at *
          subst hadr
          obtain ⟨m, hm⟩ : ∃ m, Y.heap.size = m := ⟨_, rfl⟩
          have hMm : M + 1 ≤ m := by have := HPr.out.sz; omega
          have HB1 := Lib.hid B1
          have S1 : Hid ((Y.alloc (.cells #[.int .i64 rh, .slice a0 nT c0, .int .i64 rg, .slice b0 nb d0] 67)).heap.size = m + 1) := Lib.hid (by simp [hm])
          have HF9 : Hid (l.length ≤ 6 ∧ 1 ≤ l.length ∧ pts.length ≤ 8 ∧ pr.size ≤ 100 ∧ ag < 5 ∧ ∀ p ∈ pts, smallP p) := Lib.hid ⟨hl6, hl1, hpl, hps, hag5, hsm⟩
          have LB : Hid ((progB ds rs).length ≤ 300000) := Lib.hid (by
            have h7 := flat_le (f := deB) (c := 107) ds (fun d h9 => deB_len (HZ.out d h9))
            have h8 := flat_le (f := ruB) (c := 22001) rs HBB.out
            rw [HL.out] at h7
            rw [HLr.out] at h8
            simp only [progB, List.length_append]; omega)
          have QT := Lib.hid (fun x : Int => progB_rsnoc ds rs ⟨pr, l, ag, pts, x⟩)
          obtain ⟨acc, hacc⟩ : ∃ acc, progB ds rs = acc := ⟨_, rfl⟩
          rw [hacc] at QT LB ⊢
          clear B1 hl1 hl6 hpl hsm hps hag5 hacc
          go_wp2_with fail
          refine CR.out.mono ?_
          clear CR
          rintro e w2 ⟨a, c, b, d, rfl, hb2, hst, hcap⟩
          rw [S1.out] at hst
          have HB2 : Hid (Below Y.heap.size Y w2) := Lib.hid (HB1.out.trans (hb2.mono (by rw [S1.out]; omega)))
          have s2 : m + 1 ≤ w2.heap.size := by have := hb2.size; have := S1.out; omega
          have HW2 : Hid (Below Y.heap.size Y (w2.alloc (.cells #[.string pr, .slice a l.length c, .int .i64 (ag : Nat), .slice b pts.length d, .int .i64 (acc.length : Nat)] 71))) := Lib.hid (HB2.out.alloc HB2.out.size _)
          have HA2 : Hid (Below w2.heap.size w2 (w2.alloc (.cells #[.string pr, .slice a l.length c, .int .i64 (ag : Nat), .slice b pts.length d, .int .i64 (acc.length : Nat)] 71))) := Lib.hid ((Below.refl _ _).alloc (Nat.le_refl _) _)
          have HZ6 : Hid ((w2.alloc (.cells #[.string pr, .slice a l.length c, .int .i64 (ag : Nat), .slice b pts.length d, .int .i64 (acc.length : Nat)] 71)).heap[w2.heap.size]? = some (.cells #[.string pr, .slice a l.length c, .int .i64 (ag : Nat), .slice b pts.length d, .int .i64 (acc.length : Nat)] 71 (0, 0))) := Lib.hid (box16 w2 _ _)
          have HS6 : Hid ((w2.alloc (.cells #[.string pr, .slice a l.length c, .int .i64 (ag : Nat), .slice b pts.length d, .int .i64 (acc.length : Nat)] 71)).heap.size = w2.heap.size + 1) := Lib.hid (by simp)
          obtain ⟨m2, hm2⟩ : ∃ m2, w2.heap.size = m2 := ⟨_, rfl⟩
          rw [hm2] at hst s2 HA2 HZ6 HS6
          have HST := Lib.hid hst
          have HCAP := Lib.hid hcap
          have HWR := Lib.hid HB1
          clear hb2 hst hcap f0 f1 f2 f3 HWR
          go_wp2_with fail
          generalize World.alloc w2 _ = W6 at *
          have Q6 : Hid (PW M w ds rs v u W6) := Lib.hid (HPr.out.below HW2.out)
          have HOW : ∀ b, u.ownBlock = some b → b < m := fun b hb => by rw [← hm]; exact HPr.out.ownR b hb
          have KR : RuK (M + 1) u.ownBlock W6 ⟨pr, l, ag, pts, (acc.length : Int)⟩ [.string pr, .slice a l.length c, .int .i64 (ag : Nat), .slice b pts.length d, .int .i64 (acc.length : Nat)] := fun w' h => by
            obtain ⟨h7, h8⟩ := HST.out w' (fun k h1 h2 => (h k (by omega) (by rw [HS6.out]; omega) (fun e => by have := HOW k e.symm; omega)).trans (HA2.out.block k h2))
            exact ⟨a, c, b, d, rfl, h7.mono (by rw [HS6.out]; omega), h8.mono (by rw [HS6.out]; omega), fun h0 => HCAP.out (by simpa using h0)⟩
          obtain ⟨va, vn, vc, W7, hrun0, hbox7, A7, hg7⟩ := (Q6.out.below (Below.refl _ _).drew).appR (W := W6.drew) KR (fun u hu => by
            simp only [List.mem_cons, List.not_mem_nil, or_false] at hu
            rcases hu with rfl | rfl | rfl | rfl | rfl <;> rfl) (by rw [HLr.out]; omega) (H := W6.heap.size) rfl
          have hrun : (appM #[81, 81] 81 #[u, .slice (some ⟨W6.heap.size, 0, none⟩) 1 1]).run Tryd.prog (W6.alloc (.cells #[.string pr, .slice a l.length c, .int .i64 (ag : Nat), .slice b pts.length d, .int .i64 (acc.length : Nat)] 71)).drew = .ok (.slice va vn vc) W7 := hrun0
          have A8 := Lib.hid A7
          have K8 : ∀ k, m + 1 ≤ k → k < W6.heap.size → (W7.setCell ⟨M, 1, none⟩ (.slice va vn vc)).heap[k]? = W6.heap[k]? := fun k h1 h2 => keepD (W := W6.drew) hg7 h2 (by omega) (fun b hb => by have := HOW b hb; omega)
          have Z8 := (K8 m2 (by omega) (by rw [HS6.out]; omega)).trans HZ6.out
          have HT := Lib.hid (HST.out (W7.setCell ⟨M, 1, none⟩ (.slice va vn vc)) (fun k h1 h2 => (K8 k h1 (by rw [HS6.out]; omega)).trans (HA2.out.block k h2)))
          have z0 := cellAt (i := 0) Z8 rfl
          have z1 := cellAt (i := 1) Z8 rfl
          have z2 := cellAt (i := 2) Z8 rfl
          have z3 := cellAt (i := 3) Z8 rfl
          have z4 := cellAt (i := 4) Z8 rfl
          have y0 := cellAt (i := 0) HZ6.out rfl
          have y1 := cellAt (i := 1) HZ6.out rfl
          have y2 := cellAt (i := 2) HZ6.out rfl
          have y3 := cellAt (i := 3) HZ6.out rfl
          have y4 := cellAt (i := 4) HZ6.out rfl
          have b0 := cellAt (i := 1) Q6.out.box rfl
          have b1 := cellAt (i := 1) (Q6.out.below ((Below.refl _ _).alloc (Nat.le_refl _) (.cells #[.string pr, .slice a l.length c, .int .i64 (ag : Nat), .slice b pts.length d, .int .i64 (acc.length : Nat)] 71))).box rfl
          have u7 := cellAt (i := 1) hbox7 rfl
          have u8 : ∀ i, W7.frozen? ⟨M, i, none⟩ = false := fun i => by simp [World.frozen?, hbox7]
          clear hrun0 A7 hbox7 hg7 HOW K8 Z8 KR
          go_region
          generalize World.setCell W7 _ _ = W8 at *
          clear b0 b1 y0 y1 y2 y3 y4 u7 u8 hrun
          have N8 : m2 ≤ W8.heap.size := by
            have h9 := cell_lt z0
            omega
          obtain ⟨g1, g2, g3, g4, g5, g6⟩ := HF9.out
          have TB := ruleB_small HT.out.1 HT.out.2 g6 g5 g4 g1 g3
          have TBH := Lib.hid TB
          have CW := Lib.hid (write_calls ag g5 pr a l c b pts d (acc.length : Int) m2 W8 N8 HT.out.1 HT.out.2 (HS.out.on h6 A8.out.bel) g4 (by omega) (by omega) (fun h0 => ⟨g2, HCAP.out (by simpa using h0)⟩))
          have RO : Hid (RuOK ⟨pr, l, ag, pts, (acc.length : Int)⟩) := Lib.hid ⟨g5, g4, g1, g3, g6, fun _ => g2⟩
          have RB : Hid (ruB ⟨pr, l, ag, pts, (acc.length : Int)⟩ = ruleB ag pr l pts ++ [10]) := Lib.hid rfl
          have la := LB.out
          generalize ruleB ag pr l pts = rb9 at *
          clear g1 g2 g3 g4 g5 g6 TB
          go_wp2_with fail
          refine CW.out.mono ?_
          clear CW z0 z1 z2 z3 z4
          rintro e w9 ⟨rfl, hb9⟩
          have A9 := Lib.hid (A8.out.below hb9)
          have TX : Hid ((⟨acc.toArray⟩ ++ ⟨rb9.toArray⟩ ++ ⟨#[10]⟩ : ByteArray) = ⟨(progB ds (rs ++ [⟨pr, l, ag, pts, (acc.length : Int)⟩])).toArray⟩) := Lib.hid (by rw [QT.out, RB.out]; apply ByteArray.ext; simp)
          have lb := TBH.out
          clear hb9
          go_wp2_with fail
          go_roundw
          case rel => exact ⟨j + 1, rs ++ [⟨pr, l, ag, pts, (acc.length : Int)⟩], _, by omega, by go_num, congrArg Value.string TX.out, Lib.hid (by rw [List.length_append, HLr.out]; rfl), A9, Lib.hid (fun r h9 => by
            rcases List.mem_append.1 h9 with h9 | h9
            · exact HO.out r h9
            · rw [List.mem_singleton.1 h9]; exact RO.out), Lib.hid (fun r h9 => by
            rcases List.mem_append.1 h9 with h9 | h9
            · exact HBB.out r h9
            · rw [List.mem_singleton.1 h9, RB.out, List.length_append]; have := TBH.out; simp; omega)⟩
          case measure => simp [intOf]; omega
        · obtain rfl : j = nr := by omega
          obtain ⟨da9, dc9, rfl, _⟩ := drow_shape HPr.out.dro
          obtain ⟨ra9, rc9, rfl, _⟩ := rrow_shape HPr.out.rro
          go_wp2_with fail
          go_ret2
          exact ⟨ds, rs, da9, dc9, ra9, rc9, by rw [HM.out]; rfl, HL.out, HLr.out, by rw [HM.out]; exact HPr.out, HZ.out, HO.out, HBB.out⟩
end Go.Proofs.YtaglbeokecbihaaDoor
