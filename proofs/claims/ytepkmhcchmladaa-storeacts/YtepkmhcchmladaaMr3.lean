import Derived.Test.YtepkmhcchmladaaMr2
import Derived.Test.YtepkmhcchmladaaRf3
/- The iterator of merge.Rows. -/
namespace Go.Proofs.Ytepkmhcchmladaa
open Go.RowKit Go.Shelf
set_option linter.unusedVariables false
set_option linter.unusedSimpArgs false
attribute [local go_sem] Oper.semAt_some

/-- A slice of pointers. -/
def PRow' (w : World) (a : Option Addr) (ps : List (Option Addr)) : Prop :=
  ps = [] ∨ ∃ b off, a = some ⟨b, off, none⟩ ∧ b < w.heap.size ∧ ∀ i, i < ps.length → w.cell? ⟨b, off + i, none⟩ = some (.pointer (ps[i]?.getD none))
/-- What the iterator reads: its box, its relations. -/
structure REnv (W : World) (Bp : Nat) (sa : Option Addr) (n cap wd : Nat) (segs : List (Option Addr × List (List Int))) : Prop where
  box : W.cell? ⟨Bp, 0, none⟩ = some (.slice sa n cap)
  ptrs : PRow' W sa (segs.map Prod.fst)
  seg : ∀ s ∈ segs, Seg W s.1 wd s.2
/-- What is known of a row that is handed over. -/
def RRx (T : List (List Int)) (D : Nat) (pre : List RV) (x : RV) (F : Nat → Prop) (W : World) : Prop :=
  Row W x.1 x.2.1 ∧ x.2.1.length ≤ x.2.2 ∧ (∀ q, x.1 = some q → q.block < W.heap.size ∧ D + 2 ≤ q.block ∧ ¬ F q.block) ∧ x.2.1 ∈ T ∧ pre.length < T.length
def RS (T : List (List Int)) (xs : List RV) : Prop := T.Perm (xs.map (·.2.1)) ∧ (xs.map (·.2.1)).Pairwise leR
def RSp (T : List (List Int)) (xs : List RV) : Prop := xs.length ≤ T.length
/-- The blocks that the iterator has made lie apart from the body's. -/
def Apart (A F : Nat → Prop) (D E g : Nat) (own : Option Nat) : Prop := E ≤ g ∧ (∀ b, own = some b → E ≤ b) ∧ ∀ b, F b → (A b ∨ D ≤ b) ∧ b ≠ g ∧ own ≠ some b
/-- No block of a row. -/
def offV (x : RV) (b : Nat) : Prop := ∀ q, x.1 = some q → q.block ≠ b
/-- The rows that were handed over lie apart from the iterator's blocks. -/
def PreO (wr : World) (g : Nat) (own : Option Nat) (pre : List RV) : Prop := ∀ x ∈ pre, ∀ q, x.1 = some q → q.block < wr.heap.size ∧ q.block ≠ g ∧ own ≠ some q.block
def RowsOff (E : Nat) (F : Nat → Prop) (a : Option Addr) : Prop := ∀ q, a = some q → E ≤ q.block ∧ ¬ F q.block
/-- In the first loop. -/
def RI1 (segs : List (Option Addr × List (List Int))) (A : Nat → Prop) (D E g : Nat) (W0 : World) (J : List RV → (Nat → Prop) → World → Prop) (F0 : Nat → Prop) (i : Nat) (wr : World) : Prop :=
  ∃ (L : List CP) (own : Option Nat) (p : Int), J [] F0 wr ∧ Keeps (fun b => A b ∨ D ≤ b) W0 wr ∧ Cu.HS wr g own (L.map Prod.fst) p ∧ Apart A F0 D E g own ∧ (∀ y ∈ L, RowsOff E F0 y.1.1.2.1) ∧ MI segs ((segs.take i).flatMap Prod.snd) [] L ∧ p = (L.length : Int) ∧ E ≤ wr.heap.size
/-- In the second loop: k rows are left. -/
def RI2 (segs : List (Option Addr × List (List Int))) (T : List (List Int)) (A : Nat → Prop) (D E g : Nat) (W0 : World) (J : List RV → (Nat → Prop) → World → Prop) (s6 s7 : Value) (wr : World) (k : Nat) : Prop :=
  ∃ (pre : List RV) (F : Nat → Prop) (L : List CP) (own : Option Nat) (p : Int) (b6 : Nat), s6 = .pointer (some ⟨b6, 0, none⟩) ∧ J pre F wr ∧ Keeps (fun b => A b ∨ D ≤ b) W0 wr ∧ Cu.HS wr g own (L.map Prod.fst) p ∧ Apart A F D E g own ∧ (∀ y ∈ L, RowsOff E F y.1.1.2.1) ∧ E ≤ wr.heap.size ∧ PreO wr g own pre ∧
    (E ≤ b6 ∧ b6 ≠ g ∧ own ≠ some b6 ∧ ¬ F b6 ∧ ∀ y ∈ L, ∀ q, y.1.1.2.1 = some q → q.block ≠ b6) ∧
    ((s7 = .bool true ∧ ∃ y : CP, wr.heap[b6]? = some (.cells #[.pointer y.1.1.1.1, .int .i64 y.1.1.1.2, .slice y.1.1.2.1 y.1.1.2.2.1.length y.1.1.2.2.2] 90 (0, 0)) ∧ Cu.Rd1 wr g own y.1.1.2 ∧ RowsOff E F y.1.1.2.1 ∧ (∀ q, y.1.1.2.1 = some q → q.block ≠ b6) ∧ MI segs T (pre.map (·.2.1)) (y :: L) ∧ (∀ z ∈ L, leR (rowP y) (rowP z)) ∧ p = (pre.length : Int) + (L.length : Int) + 1 ∧ k = ((y :: L).flatMap restP).length) ∨
     (s7 = .bool false ∧ L = [] ∧ MI segs T (pre.map (·.2.1)) [] ∧ k = 0))

theorem RowsOff.mono {E : Nat} {F F' : Nat → Prop} {a : Option Addr} (h : RowsOff E F a) (hf : ∀ b, E ≤ b → F' b → F b) : RowsOff E F' a := fun q hq => ⟨(h q hq).1, fun hF => (h q hq).2 (hf _ (h q hq).1 hF)⟩
theorem take_flat {segs : List (Option Addr × List (List Int))} {i : Nat} (h : i < segs.length) : (segs.take (i + 1)).flatMap Prod.snd = (segs.take i).flatMap Prod.snd ++ segs[i].2 := by
  rw [List.take_succ_eq_append_getElem h, List.flatMap_append]; simp
theorem flat_le {segs : List (Option Addr × List (List Int))} (i : Nat) : ((segs.take i).flatMap Prod.snd).length ≤ (segs.flatMap Prod.snd).length := by
  have : segs.flatMap Prod.snd = (segs.take i).flatMap Prod.snd ++ (segs.drop i).flatMap Prod.snd := by rw [← List.flatMap_append, List.take_append_drop]
  rw [this, List.length_append]; omega
theorem apart_grow {A F : Nat → Prop} {D E g : Nat} {own own' : Option Nat} {w : World} (h : Apart A F D E g own) (hF : ∀ b, F b → b < w.heap.size) (hE : E ≤ w.heap.size) (ho : ∀ b, own' = some b → own = some b ∨ w.heap.size ≤ b) : Apart A F D E g own' := by
  refine ⟨h.1, fun b hb => ?_, fun b hb => ⟨(h.2.2 b hb).1, (h.2.2 b hb).2.1, fun e => ?_⟩⟩
  · rcases ho b hb with h1 | h1
    · exact h.2.1 b h1
    · omega
  · rcases ho b e with h1 | h1
    · exact (h.2.2 b hb).2.2 h1
    · have := hF b hb; omega
/-- The row at index 0 of one more relation is pushed. -/
theorem RI1.push {segs : List (Option Addr × List (List Int))} {A : Nat → Prop} {D E g : Nat} {W0 : World} {J : List RV → (Nat → Prop) → World → Prop} {F0 : Nat → Prop} {i : Nat} {wr w' : World} {L : List CP} {own : Option Nat} {p : Int} (hi : i < segs.length) (hJ : J [] F0 wr) (hK : Keeps (fun b => A b ∨ D ≤ b) W0 wr) (hA : Apart A F0 D E g own) (hR : ∀ y ∈ L, RowsOff E F0 y.1.1.2.1) (hM : MI segs ((segs.take i).flatMap Prod.snd) [] L) (hp : p = (L.length : Int)) (hE : E ≤ wr.heap.size)
    (hJF : ∀ pre F W', J pre F W' → ∀ b, F b → b < W'.heap.size) (hJK : ∀ pre F W W' N, J pre F W → Keeps N W W' → (∀ b, N b → ¬ F b ∧ D + 2 ≤ b ∧ ∀ x ∈ pre, offV x b) → J pre F W') (hDE : D + 2 ≤ E) (hsr : SortedR segs[i].2) {e : Ending}
    (h : PushRowRet wr g own (L.map Prod.fst) p segs[i].1 segs[i].2 0 e w') : e = .returned (.tuple #[]) ∧ RI1 segs A D E g W0 J F0 (i + 1) w' := by
  obtain ⟨he, own', bag', p', hH, hk, ho, hc⟩ := h
  have hFs := hJF _ _ _ hJ
  have hN : ∀ b, (b = g ∨ own = some b) → E ≤ b := fun b hb => by
    rcases hb with e | e
    · rw [e]; exact hA.1
    · exact hA.2.1 b e
  have hJ' := hJK _ _ _ _ _ hJ hk (fun b hb => ⟨fun hF => by
    rcases hb with e | e
    · exact (hA.2.2 b hF).2.1 e
    · exact (hA.2.2 b hF).2.2 e, by have := hN b hb; omega, fun x hx => by cases hx⟩)
  have hK' := hK.trans (hk.mono (M := fun b => A b ∨ D ≤ b) (fun b _ hb => .inr (by have := hN b hb; omega)))
  have hA' := apart_grow hA hFs hE ho
  have hE' : E ≤ w'.heap.size := Nat.le_trans hE hk.size
  refine ⟨he, ?_⟩
  rcases hc with ⟨h0, ra, rc, hb, hp', hq⟩ | ⟨h0, hb, hp'⟩
  · refine ⟨(((((segs[i].1, ((0 : Nat) : Int)), (ra, rowAt segs[i].2 0, rc)), p), segs[i].2) :: L), own', p', hJ', hK', by rw [List.map_cons, ← hb]; exact hH, hA', fun y hy => ?_, ⟨?_, List.Pairwise.nil, fun a ha => (by cases ha), fun y hy => ?_⟩, by rw [hp', hp]; simp, hE'⟩
    · rcases List.mem_cons.1 hy with rfl | hy
      · exact fun q hq' => ⟨by have := hq q hq'; omega, fun hF => by have := hFs _ hF; have := hq q hq'; omega⟩
      · exact hR y hy
    · rw [take_flat hi, List.nil_append, List.flatMap_cons]
      have e1 : restP (((((segs[i].1, ((0 : Nat) : Int)), (ra, rowAt segs[i].2 0, rc)), p), segs[i].2) : CP) = segs[i].2 := rfl
      rw [e1]
      have := hM.perm
      rw [List.nil_append] at this
      exact (this.append_right _).trans List.perm_append_comm
    · rcases List.mem_cons.1 hy with rfl | hy
      · exact ⟨0, rfl, h0, List.getElem_mem hi, rfl, hsr⟩
      · exact hM.ok y hy
  · have hnil : segs[i].2 = [] := List.eq_nil_of_length_eq_zero (by omega)
    refine ⟨L, own', p', hJ', hK', by rw [← hb]; exact hH, hA', hR, ?_, by rw [hp', hp], hE'⟩
    rw [take_flat hi, hnil, List.append_nil]; exact hM
/-- What a pop leaves, with the cursors' relations. -/
def PI (w1 : World) (g : Nat) (own : Option Nat) (L : List CP) (p : Int) (c : Cu.CV) (b : Bool) (w2 : World) : Prop :=
  Keeps (fun k => k = g ∨ own = some k) w1 w2 ∧ ((b = true ∧ ∃ (y : CP) (L' : List CP), L.Perm (y :: L') ∧ y.1.1 = c ∧ Cu.HS w2 g own (L'.map Prod.fst) p ∧ (∀ z ∈ L', leR (rowP y) (rowP z)) ∧ Cu.Rd1 w2 g own c.2) ∨ (b = false ∧ L = [] ∧ Cu.HS w2 g own [] p))
def PopAny (w1 : World) (g : Nat) (own : Option Nat) (L : List CP) (p : Int) (e : Ending) (w2 : World) : Prop :=
  ∃ (a : Option Addr) (i : Int) (r : Option Addr) (z : List Int) (k : Nat) (b : Bool), e = .returned (.tuple #[.agg #[.pointer a, .int .i64 i, .slice r z.length k], .bool b]) ∧ PI w1 g own L p ((a, i), (r, z, k)) b w2
theorem pop_any {w : World} {g : Nat} {own : Option Nat} {L : List CP} {p : Int} (h : Cu.HS w g own (L.map Prod.fst) p) (hlen : L.length ≤ 1000000) : Calls Try.prog 65 #[.pointer (some ⟨g, 0, none⟩)] w (PopAny w g own L p) := by
  by_cases hL : L = []
  · subst hL
    refine (Cu.hs_pop_none h).mono fun e w2 ⟨he, hb⟩ => ⟨none, 0, none, [], 0, false, he, Keeps.of_below hb, .inr ⟨rfl, rfl, h.below hb⟩⟩
  · have hrd := h.rd
    refine (Cu.hs_pop h (by simp; exact List.length_pos_iff.2 hL) (by simpa using hlen)).mono fun e w2 ⟨x, bag', he, hp, hm, h2, hk⟩ => ?_
    obtain ⟨y, L', h3, h4, h5⟩ := pop_pairs hp
    obtain ⟨⟨⟨xa, xi⟩, ⟨xr, xz, xk⟩⟩, xn⟩ := x
    refine ⟨xa, xi, xr, xz, xk, true, he, hk, .inl ⟨rfl, y, L', h3, by rw [h4], h2.perm h5, fun z hz => ?_, ?_⟩⟩
    · have h6 := hm z.1 (h5.symm.subset (List.mem_map_of_mem hz))
      have h7 := Cu.ltC_not h6
      unfold leR rowP
      rw [h4]; exact h7
    · have h8 := hrd _ (hp.symm.subset List.mem_cons_self)
      exact h8.keeps hk (fun q hq e => by
        have := h8.2.2.2 q hq
        rcases e with e | e
        · exact this.2.1 e
        · exact this.2.2 e)
theorem RI2.make {segs : List (Option Addr × List (List Int))} {T : List (List Int)} {A : Nat → Prop} {D E g : Nat} {W0 : World} {J : List RV → (Nat → Prop) → World → Prop} {pre : List RV} {F : Nat → Prop} {w1 w2 W' : World} {L : List CP} {own : Option Nat} {p : Int} {a : Option Addr} {i : Int} {r : Option Addr} {z : List Int} {k : Nat} {b : Bool} {b6 : Nat}
    (hJ : J pre F w1) (hK : Keeps (fun b => A b ∨ D ≤ b) W0 w1) (hA : Apart A F D E g own) (hR : ∀ y ∈ L, RowsOff E F y.1.1.2.1) (hM : MI segs T (pre.map (·.2.1)) L) (hp : p = (pre.length : Int) + (L.length : Int)) (hE : E ≤ w1.heap.size) (hDE : D + 2 ≤ E)
    (hJK : ∀ pre F W W' N, J pre F W → Keeps N W W' → (∀ b, N b → ¬ F b ∧ D + 2 ≤ b ∧ ∀ x ∈ pre, offV x b) → J pre F W')
    (h : PI w1 g own L p ((a, i), (r, z, k)) b w2) (hW : Keeps (fun k => k = b6) w2 W') (hb6 : W'.heap[b6]? = some (.cells #[.pointer a, .int .i64 i, .slice r z.length k] 90 (0, 0)))
    (h1 : E ≤ b6) (h2 : b6 ≠ g) (h3 : own ≠ some b6) (h4 : ¬ F b6) (h5 : ∀ y ∈ L, ∀ q, y.1.1.2.1 = some q → q.block ≠ b6) (hPO : PreO w1 g own pre) (hP6 : ∀ x ∈ pre, offV x b6) :
    RI2 segs T A D E g W0 J (.pointer (some ⟨b6, 0, none⟩)) (.bool b) W' (L.flatMap restP).length := by
  obtain ⟨hk, hc⟩ := h
  have hN : ∀ b, (b = g ∨ own = some b) → E ≤ b := fun b hb => by
    rcases hb with e | e
    · rw [e]; exact hA.1
    · exact hA.2.1 b e
  have kk : Keeps (fun k => (k = g ∨ own = some k) ∨ k = b6) w1 W' := (hk.mono (fun k _ h => .inl h)).trans (hW.mono (fun k _ h => .inr h))
  have hN' : ∀ b, ((b = g ∨ own = some b) ∨ b = b6) → E ≤ b := fun b hb => by
    rcases hb with e | e
    · exact hN b e
    · rw [e]; exact h1
  have hJ' := hJK _ _ _ _ _ hJ kk (fun b hb => ⟨fun hF => by
    rcases hb with (e | e) | e
    · exact (hA.2.2 b hF).2.1 e
    · exact (hA.2.2 b hF).2.2 e
    · rw [e] at hF; exact h4 hF, by have := hN' b hb; omega, fun x hx q hq e9 => by
    have h9 := hPO x hx q hq
    rcases hb with (e | e) | e
    · exact h9.2.1 (e9.trans e)
    · exact h9.2.2 (e9.symm ▸ e)
    · exact hP6 x hx q hq (e9.trans e)⟩)
  have hK' := hK.trans (kk.mono (M := fun b => A b ∨ D ≤ b) (fun b _ hb => .inr (by have := hN' b hb; omega)))
  have hE' : E ≤ W'.heap.size := Nat.le_trans hE kk.size
  have hPO' : PreO W' g own pre := fun x hx q hq => ⟨Nat.lt_of_lt_of_le (hPO x hx q hq).1 kk.size, (hPO x hx q hq).2⟩
  rcases hc with ⟨rfl, y, L', q1, q2, q3, q4, q5⟩ | ⟨rfl, rfl, q3⟩
  · have sub : ∀ z ∈ L', z ∈ L := fun z hz => q1.symm.subset (List.mem_cons_of_mem _ hz)
    have hy : y ∈ L := q1.symm.subset List.mem_cons_self
    have e0 : y.1.1.2.1 = r := by rw [q2]
    refine ⟨pre, F, L', own, p, b6, rfl, hJ', hK', q3.keeps hW h2.symm (fun b hb e => by rw [e] at hb; exact h3 hb) (fun e he q hq e2 => ?_), hA, fun z hz => hR z (sub z hz), hE', hPO', ⟨h1, h2, h3, h4, fun z hz => h5 z (sub z hz)⟩, .inl ⟨rfl, y, ?_, ?_, ?_, ?_, hM.turn q1, q4, ?_, ?_⟩⟩
    · obtain ⟨z, hz, rfl⟩ := List.mem_map.1 he
      exact h5 z (sub z hz) q hq e2
    · rw [hb6, q2]
    · rw [q2]
      exact q5.keeps hW (fun q hq => h5 y hy q (by rw [e0]; exact hq))
    · exact hR y hy
    · exact h5 y hy
    · rw [hp, q1.length_eq]; simp; omega
    · exact (q1.flatMap_right restP).length_eq
  · exact ⟨pre, F, [], own, p, b6, rfl, hJ', hK', q3.keeps hW h2.symm (fun b hb e => by rw [e] at hb; exact h3 hb) (fun e he => by cases he), hA, fun z hz => (by cases hz), hE', hPO', ⟨h1, h2, h3, h4, fun z hz => (by cases hz)⟩, .inr ⟨rfl, rfl, hM, rfl⟩⟩
theorem heap_set3 {w : World} {g : Nat} {T : TypeId} {x0 x1 x2 y0 y1 y2 : Value} (h : w.heap[g]? = some (.cells #[x0, x1, x2] T (0, 0))) :
    (((w.setCell ⟨g, 0, none⟩ y0).setCell ⟨g, 1, none⟩ y1).setCell ⟨g, 2, none⟩ y2).heap[g]? = some (.cells #[y0, y1, y2] T (0, 0)) := by
  simp [World.setCell, Array.getElem?_modify, h]
theorem keeps_set3 (w : World) (g : Nat) (y0 y1 y2 : Value) : Keeps (fun k => k = g) w (((w.setCell ⟨g, 0, none⟩ y0).setCell ⟨g, 1, none⟩ y1).setCell ⟨g, 2, none⟩ y2) :=
  (((Keeps.refl (fun k => k = g) w).setCell (p := ⟨g, 0, none⟩) rfl _).setCell (p := ⟨g, 1, none⟩) rfl _).setCell (p := ⟨g, 2, none⟩) rfl _
theorem mem_flat_len {segs : List (Option Addr × List (List Int))} {s : Option Addr × List (List Int)} (h : s ∈ segs) : s.2.length ≤ (segs.flatMap Prod.snd).length := by
  obtain ⟨a, b, rfl⟩ := List.append_of_mem h
  simp only [List.flatMap_append, List.flatMap_cons, List.length_append]; omega
/-- One row is handed over, the next of its relation is pushed. -/
theorem ri_step {segs : List (Option Addr × List (List Int))} {T : List (List Int)} {A : Nat → Prop} {D E : Nat} {W0 : World} {J : List RV → (Nat → Prop) → World → Prop} {pre : List RV} {F F' : Nat → Prop} {wr W3 W4 : World} {L : List CP} {own : Option Nat} {p : Int} {yp ra : Option Addr} {i rc : Nat} {rz : List Int} {yn : Int} {yrs : List (List Int)} {m : Nat} {e : Ending}
    (hJK : ∀ pre F W W' N, J pre F W → Keeps N W W' → (∀ b, N b → ¬ F b ∧ D + 2 ≤ b ∧ ∀ x ∈ pre, offV x b) → J pre F W') (hJF : ∀ pre F W', J pre F W' → ∀ b, F b → b < W'.heap.size) (hDE : D + 2 ≤ E)
    (hH : Cu.HS wr E own (L.map Prod.fst) p) (hA : Apart A F D E E own) (hR : ∀ y ∈ L, RowsOff E F y.1.1.2.1) (hE : E ≤ wr.heap.size) (hPO : PreO wr E own pre) (hrd : Cu.Rd1 wr E own (ra, rz, rc))
    (hM : MI segs T (pre.map (·.2.1)) ((((((yp, (i : Int)), (ra, rz, rc)), yn), yrs) : CP) :: L)) (hmin : ∀ z ∈ L, leR (rowP ((((((yp, (i : Int)), (ra, rz, rc)), yn), yrs) : CP))) (rowP z)) (hp : p = (pre.length : Int) + (L.length : Int) + 1) (hm : m = (((((((yp, (i : Int)), (ra, rz, rc)), yn), yrs) : CP) :: L).flatMap restP).length)
    (hJ3 : J (pre ++ [(ra, rz, rc)]) F' W3) (hK3 : Keeps F wr W3) (hF3 : ∀ b, F' b → F b ∨ wr.heap.size ≤ b) (hKw : Keeps (fun b => A b ∨ D ≤ b) W0 W3)
    (h : PushRowRet W3 E own (L.map Prod.fst) p yp yrs (i + 1) e W4) :
    ∃ (L2 : List CP) (own' : Option Nat) (p' : Int), e = .returned (.tuple #[]) ∧ J (pre ++ [(ra, rz, rc)]) F' W4 ∧ Keeps (fun b => A b ∨ D ≤ b) W0 W4 ∧ Cu.HS W4 E own' (L2.map Prod.fst) p' ∧ Apart A F' D E E own' ∧ (∀ y ∈ L2, RowsOff E F' y.1.1.2.1) ∧ MI segs T ((pre ++ [(ra, rz, rc)]).map (·.2.1)) L2 ∧ p' = ((pre ++ [(ra, rz, rc)]).length : Int) + (L2.length : Int) ∧ (L2.flatMap restP).length < m ∧ Keeps (fun k => k = E ∨ own = some k) W3 W4 ∧ PreO W4 E own' (pre ++ [(ra, rz, rc)]) ∧ (∀ x ∈ pre ++ [(ra, rz, rc)], ∀ q, x.1 = some q → q.block < W3.heap.size) := by
  obtain ⟨he, own', bag', p', hH4, hk4, ho4, hc4⟩ := h
  have hlt := hH.lt
  have hAF : Apart A F' D E E own := ⟨hA.1, hA.2.1, fun b hb => by
    rcases hF3 b hb with h1 | h1
    · exact hA.2.2 b h1
    · exact ⟨.inr (by omega), by omega, fun e => by have := hlt.2 b e; omega⟩⟩
  have hF3s := hJF _ _ _ hJ3
  have hPX : PreO wr E own (pre ++ [(ra, rz, rc)]) := fun x hx => by
    rcases List.mem_append.1 hx with hx | hx
    · exact hPO x hx
    · obtain rfl := List.mem_singleton.1 hx; exact hrd.2.2.2
  have hPL : ∀ x ∈ pre ++ [(ra, rz, rc)], ∀ q, x.1 = some q → q.block < W3.heap.size := fun x hx q hq => Nat.lt_of_lt_of_le (hPX x hx q hq).1 hK3.size
  have hPO4 : PreO W4 E own' (pre ++ [(ra, rz, rc)]) := fun x hx q hq => ⟨Nat.lt_of_lt_of_le (hPL x hx q hq) hk4.size, (hPX x hx q hq).2.1, fun e => by
    rcases ho4 _ e with h1 | h1
    · exact (hPX x hx q hq).2.2 h1
    · have := hPL x hx q hq; omega⟩
  have hN : ∀ b, (b = E ∨ own = some b) → E ≤ b := fun b hb => by
    rcases hb with e | e
    · rw [e]; exact hA.1
    · exact hA.2.1 b e
  have hJ4 := hJK _ _ _ _ _ hJ3 hk4 (fun b hb => ⟨fun hF => by
    rcases hb with e | e
    · exact (hAF.2.2 b hF).2.1 e
    · exact (hAF.2.2 b hF).2.2 e, by have := hN b hb; omega, fun x hx q hq e9 => by
    have h9 := hPX x hx q hq
    rcases hb with e | e
    · exact h9.2.1 (e9.trans e)
    · exact h9.2.2 (e9.symm ▸ e)⟩)
  have hKw4 := hKw.trans (hk4.mono (M := fun b => A b ∨ D ≤ b) (fun b _ hb => .inr (by have := hN b hb; omega)))
  have hE3 : E ≤ W3.heap.size := Nat.le_trans hE hK3.size
  have hA4 := apart_grow hAF hF3s hE3 ho4
  have hRo : ∀ y ∈ L, RowsOff E F' y.1.1.2.1 := fun y hy q hq => ⟨(hR y hy q hq).1, fun hF => by
    rcases hF3 _ hF with h1 | h1
    · exact (hR y hy q hq).2 h1
    · have := (hH.rd y.1 (List.mem_map_of_mem hy)).2.2.2 q hq; omega⟩
  obtain ⟨i', hi1, hi2, hi3, hi4, hi5⟩ := hM.ok _ List.mem_cons_self
  have hii : (i : Int) = (i' : Int) := hi1
  have hii' : i' = i := by omega
  subst hii'
  have hr : restP ((((((yp, (i' : Int)), (ra, rz, rc)), yn), yrs) : CP)) = yrs.drop i' := rfl
  rw [List.flatMap_cons, hr, List.length_append, List.length_drop] at hm
  dsimp only at hi2
  rcases hc4 with ⟨h0, ra', rc', hb, hp', hq⟩ | ⟨h0, hb, hp'⟩
  · have hM2 := hM.next hmin (i := i') rfl h0 ra' rc' p
    refine ⟨_, own', p', he, hJ4, hKw4, ?_, hA4, ?_, by rw [List.map_append]; exact hM2, ?_, ?_, hk4, hPO4, hPL⟩
    · rw [List.map_cons]; dsimp only; rw [← hb]; exact hH4
    · intro z hz
      rcases List.mem_cons.1 hz with rfl | hz
      · exact fun q hq' => ⟨by have := hq q hq'; omega, fun hF => by have := hF3s _ hF; have := hq q hq'; omega⟩
      · exact hRo z hz
    · rw [hp', hp]; simp; omega
    · have e1 : restP (((((yp, ((i' + 1 : Nat) : Int)), (ra', rowAt yrs (i' + 1), rc')), p), yrs) : CP) = yrs.drop (i' + 1) := rfl
      rw [List.flatMap_cons]
      dsimp only
      rw [e1, List.length_append, List.length_drop]; omega
  · have hM2 := hM.last hmin (i := i') rfl h0
    refine ⟨L, own', p', he, hJ4, hKw4, by rw [← hb]; exact hH4, hA4, hRo, by rw [List.map_append]; exact hM2, ?_, by omega, hk4, hPO4, hPL⟩
    rw [hp', hp]; simp; omega
set_option maxRecDepth 100000 in
set_option maxHeartbeats 4000000 in
theorem rows1_in (n Bp : Nat) (sa : Option Addr) (cap wd : Nat) (segs : List (Option Addr × List (List Int))) (T : List (List Int)) (A : Nat → Prop) (D : Nat) (W0 : World) (hwd : wd ≤ 1000) (hT : T = segs.flatMap Prod.snd) (hTl : T.length ≤ 100000) (hn : segs.length ≤ 1000) (hD : D = W0.heap.size)
    (hE : ∀ W, Keeps A W0 W → REnv W Bp sa segs.length cap wd segs) :
    IterIs Try.prog n 61 #[.pointer (some ⟨Bp, 0, none⟩)] (fun x => #[encV x]) (RRx T D) offV (RS T) (RSp T) A D W0 := by
  intro l J Jx F0 W hW2 hbW hFA hJF hJK hY h0
  have HE := Lib.hid hE
  have HJF := Lib.hid hJF
  have HJK := Lib.hid hJK
  have HY := Lib.hid hY
  have env : Hid (∀ W', Keeps (fun b => A b ∨ D ≤ b) W0 W' → REnv W' Bp sa segs.length cap wd segs) := Lib.hid (fun W' hk => hE W' ⟨hk.os, hk.tape, hk.output, hk.size, fun k hk1 hk2 => hk.block k hk1 (fun h => by
    rcases h with h | h
    · exact hk2 h
    · omega)⟩)
  have K0 : Keeps (fun b => A b ∨ D ≤ b) W0 W := ⟨hbW.os, hbW.tape, hbW.output, by have := hbW.size; omega, fun k hk hn => hbW.block k (by omega)⟩
  have HFA := Lib.hid hFA
  obtain ⟨E, hEs⟩ : ∃ E, W.heap.size = E := ⟨_, rfl⟩
  have ES := Lib.hid hEs
  rw [hEs] at hW2
  have TT := Lib.hid hT
  have F0lt : Hid (∀ b, F0 b → b < E) := Lib.hid (fun b hb => by rw [← hEs]; exact hJF _ _ _ h0 b hb)
  have I0 : Hid (RI1 segs A D E E W0 J F0 0 (W.alloc (.cells #[Cu.fC, .slice none 0 0, .int .i64 0] 108))) := by
    have hh := Cu.hs_new W
    rw [hEs] at hh
    have hb : Below W.heap.size W (W.alloc (.cells #[Cu.fC, .slice none 0 0, .int .i64 0] 108)) := (Below.refl _ _).alloc (Nat.le_refl _) _
    refine Lib.hid ⟨[], none, 0, hJK _ _ _ _ (fun _ => False) h0 (Keeps.of_below hb) (fun _ h => h.elim), K0.trans (Keeps.of_below hb), hh, ⟨Nat.le_refl _, fun b hb => (by cases hb), fun b hb => ⟨.inl (hFA b hb), fun e => ?_, by simp⟩⟩, fun y hy => (by cases hy), ⟨by simp, List.Pairwise.nil, fun a ha => (by cases ha), fun y hy => (by cases hy)⟩, rfl, by simp; omega⟩
    have := F0lt.out b hb; omega
  have EN := env.out _ K0
  have cb : Hid (Calls Try.prog 62 #[.func (.func 63) #[] #[]] W fun e w' => e = .returned (.pointer (some ⟨E, 0, none⟩)) ∧ w' = W.alloc (.cells #[Cu.fC, .slice none 0 0, .int .i64 0] 108)) := Lib.hid (by have := Cu.newheap_calls 63 W; rw [hEs] at this; exact this)
  clear hE hJF hJK hY h0 K0 hbW hFA hEs EN hT hD
  refine callsIn_of_wp Try.func61 rfl trivial ?_ rfl
  simp only [Try.ntmps61, List.size_toArray, List.length_cons, List.length_nil, Nat.reduceAdd, Nat.reduceSub, Array.replicate_succ, Array.replicate_zero, List.push_toArray, List.append_toArray, List.nil_append, List.cons_append]
  gi_wp2
  refine ⟨trivial, (fun h => by cases h), (callsIn_wide.2 cb.out).mono ?_⟩
  rintro e w1 ⟨rfl, rfl⟩
  generalize World.alloc W _ = w1 at *
  obtain ⟨L0, own0, p0, q1, q2, q3⟩ := I0.out
  have c1 := (env.out _ q2).box
  clear q1 q2 q3 cb
  gi_wp2
  gi_loopw [11] (fun s wr => ∃ i : Nat, i ≤ segs.length ∧ s = .int .i64 i ∧ Hid (RI1 segs A D E E W0 J F0 i wr)) (fun s _ => segs.length - (intOf s).toNat)
  case atStart => exact ⟨0, Nat.zero_le _, rfl, I0⟩
  case round =>
    obtain ⟨i, hi, rfl, HI⟩ := hrel
    by_cases hlt : i < segs.length
    · obtain ⟨L, own, p, hJ, hK, hH, hA, hR, hM, hp, hEs⟩ := HI.out
      have en := env.out _ hK
      have c1 := en.box
      have hsg := en.seg _ (List.getElem_mem hlt)
      obtain ⟨sb, so, rfl, _, hpc⟩ : ∃ b off, sa = some ⟨b, off, none⟩ ∧ b < wr.heap.size ∧ ∀ i, i < (segs.map Prod.fst).length → wr.cell? ⟨b, off + i, none⟩ = some (.pointer ((segs.map Prod.fst)[i]?.getD none)) := by
        rcases en.ptrs with h | h
        · simp at h; rw [h] at hlt; simp at hlt
        · exact h
      have c2 := hpc i (by simpa using hlt)
      rw [show (segs.map Prod.fst)[i]?.getD none = segs[i].1 by simp [hlt]] at c2
      have hl1 := hM.count
      have hl2 := flat_le (segs := segs) i
      rw [← TT.out] at hl2
      have hl3 : segs[i].2.length ≤ T.length := by
        have := flat_le (segs := segs) (i + 1)
        rw [take_flat hlt, List.length_append, ← TT.out] at this; omega
      simp only [List.length_nil, Nat.zero_add] at hl1
      have cp := pushRow_calls hH hsg 0 (by omega) hwd (by omega) (by simp; omega) (by omega) (by omega)
      have NX := Lib.hid (fun e w' => RI1.push (e := e) (w' := w') hlt hJ hK hA hR hM hp hEs HJF.out HJK.out hW2 hsg.1)
      clear en hsg hpc hl1 hl2 hl3 hJ hK hH hA hR hM hp hEs
      gi_wp2
      refine ⟨trivial, (fun h => by cases h), (callsIn_wide.2 cp).mono ?_⟩
      intro e w' h
      obtain ⟨rfl, h2⟩ := NX.out e w' h
      have H2 := Lib.hid h2
      clear h h2 NX cp c1 c2
      gi_wp2
      go_roundw
      case rel => exact ⟨i + 1, by omega, by go_num, H2⟩
      case measure => simp [intOf]; omega
    · obtain rfl : i = segs.length := by omega
      have tl : decide ((segs.length : Int) < (segs.length : Int)) = false := decide_eq_false (by omega)
      obtain ⟨L, own, p, hJ, hK, hH, hA, hR, hM, hp, hEs⟩ := HI.out
      rw [List.take_length, ← TT.out] at hM
      have hl1 := hM.count
      simp only [List.length_nil, Nat.zero_add] at hl1
      have cp := pop_any hH (by omega)
      have hFs := HJF.out _ _ _ hJ
      have MK := Lib.hid (fun (a : Option Addr) (x : Int) (r : Option Addr) (z : List Int) (k : Nat) (b : Bool) (w2 : World) (h : PI wr E own L p ((a, x), (r, z, k)) b w2) =>
        RI2.make (W' := w2.alloc (.cells #[.pointer a, .int .i64 x, .slice r z.length k] 90)) (b6 := w2.heap.size) hJ hK hA hR hM (by rw [hp]; simp) hEs hW2 HJK.out h ((Keeps.refl _ w2).alloc _) (World.alloc_heap_new _ _) (by have := h.1.size; omega) (by have := h.1.size; have := hH.lt.1; omega) (fun e => by have := h.1.size; have := hH.lt.2 _ e; omega) (fun hF => by have := h.1.size; have := hFs _ hF; omega) (fun y hy q hq => by have := h.1.size; have := (hH.rd y.1 (List.mem_map_of_mem hy)).2.2.2 q hq; omega) (fun x hx => by cases hx) (fun x hx => by cases hx))
      clear hJ hK hH hA hR hM hp hEs hl1 hFs HI c1
      gi_wp2
      refine ⟨trivial, (fun h => by cases h), (callsIn_wide.2 cp).mono ?_⟩
      rintro e w2 ⟨ca, ci, cr, cz, ck, cb, rfl, hpi⟩
      have START := Lib.hid (MK.out _ _ _ _ _ _ _ hpi)
      clear hpi MK cp tl
      gi_wp2
      generalize World.alloc w2 _ = w3 at *
      generalize w2.heap.size = b60 at *
      gi_loopw [6, 7] (fun s6 s7 wr => Hid (∃ k, RI2 segs T A D E E W0 J s6 s7 wr k)) (fun s6 s7 wr => lst (fun k => RI2 segs T A D E E W0 J s6 s7 wr k))
      case atStart => exact Lib.hid ⟨_, START.out⟩
      case round =>
        obtain ⟨m, hm, hml⟩ := least_is hrel.out
        have HM0 := Lib.hid (And.intro hm hml)
        clear hml hrel START
        obtain ⟨pre, F, L, own, p, b6, rfl, hJ, hK, hH, hA, hR, hEs, hPO, ⟨g1, g2, g3, g4, g5⟩, hc⟩ := hm
        rcases hc with ⟨rfl, y, hbox, hrd, hro, hrn, hM, hmin, hp, hm⟩ | ⟨rfl, rfl, hM, hm⟩
        · obtain ⟨i, hi1, hi2, hi3, hi4, hi5⟩ := hM.ok y List.mem_cons_self
          have hcnt := hM.count
          obtain ⟨⟨⟨⟨yp, ya⟩, ⟨ra, rz, rc⟩⟩, yn⟩, yrs⟩ := y
          dsimp only at hi1 hi2 hi3 hi4 hbox hrd hro hrn
          subst hi1
          have hrT : rz ∈ T := by
            refine hM.perm.symm.subset (List.mem_append_right _ ?_)
            rw [List.flatMap_cons]
            refine List.mem_append_left _ ?_
            obtain ⟨i', _, _, e⟩ := (hM.ok _ List.mem_cons_self).rest
            rw [e]; exact List.mem_cons_self
          have hpl : pre.length < T.length := by
            have h1 := (hM.ok _ List.mem_cons_self).pos
            have h2 := hcnt.1
            simp only [List.length_map, List.flatMap_cons, List.length_append] at h2
            omega
          have hRR : RRx T D pre (ra, rz, rc) F wr := ⟨hrd.1, hrd.2.1, fun q hq => ⟨(hrd.2.2.2 q hq).1, by have := (hro q hq).1; omega, (hro q hq).2⟩, hrT, hpl⟩
          have d0 : wr.cell? ⟨b6, 0, none⟩ = some (.pointer yp) := by rw [cell_of_row wr b6 0 _ 90 (0, 0) hbox]; rfl
          have d1 : wr.cell? ⟨b6, 1, none⟩ = some (.int .i64 i) := by rw [cell_of_row wr b6 1 _ 90 (0, 0) hbox]; rfl
          have d2 : wr.cell? ⟨b6, 2, none⟩ = some (.slice ra rz.length rc) := by rw [cell_of_row wr b6 2 _ 90 (0, 0) hbox]; rfl
          have HJ := Lib.hid hJ
          have HK := Lib.hid hK
          have HH := Lib.hid hH
          have HA := Lib.hid hA
          have HR := Lib.hid hR
          have HM := Lib.hid hM
          have HMIN := Lib.hid hmin
          have HP := Lib.hid hp
          have HMM := Lib.hid hm
          have HB := Lib.hid hbox
          have HC := Lib.hid hcnt
          have HG := Lib.hid (And.intro g3 (And.intro g4 g5))
          have HI := Lib.hid (And.intro hi2 hi3)
          have HSR := Lib.hid hi5
          have HES := Lib.hid hEs
          have HPO := Lib.hid hPO
          have HRD := Lib.hid hrd
          have HSZ : Hid (∀ b, F b → b < wr.heap.size) := Lib.hid (HJF.out _ _ _ hJ)
          have hb6 : b6 < wr.heap.size := (Array.getElem?_eq_some_iff.1 hbox).1
          obtain ⟨fn, tmps, assign, body, hy, hRd⟩ := HY.out pre F (ra, rz, rc) wr hJ hRR
          dsimp only [encV] at hy
          clear hJ hK hH hA hR hM hmin hp hm hbox hcnt g3 g4 g5 hi2 hi3 hi4 hi5 hEs hrT hRR hrd hro hrn hPO
          gi_wp2
          refine ⟨(fun h => by cases h), hRd.mono ?_⟩
          rintro e W3 (⟨rfl, F', hJ3, hK3, hF3⟩ | ⟨rfl, hx⟩)
          · have J3 := Lib.hid hJ3
            have K3 := Lib.hid hK3
            have F3 := Lib.hid hF3
            clear hJ3 hK3 hF3 hRd hy
            have e6 : W3.heap[b6]? = wr.heap[b6]? := K3.out.block b6 hb6 HG.out.2.1
            have d0' : W3.cell? ⟨b6, 0, none⟩ = some (.pointer yp) := (World.cell?_of_block (a := ⟨b6, 0, none⟩) e6).trans d0
            have d1' : W3.cell? ⟨b6, 1, none⟩ = some (.int .i64 i) := (World.cell?_of_block (a := ⟨b6, 1, none⟩) e6).trans d1
            have d2' : W3.cell? ⟨b6, 2, none⟩ = some (.slice ra rz.length rc) := (World.cell?_of_block (a := ⟨b6, 2, none⟩) e6).trans d2
            have HS3 : Cu.HS W3 E own (L.map Prod.fst) p := HH.out.keeps K3.out (fun h => (HA.out.2.2 _ h).2.1 rfl) (fun b hb h => (HA.out.2.2 _ h).2.2 hb) (fun e he q hq h => by
              obtain ⟨z, hz, rfl⟩ := List.mem_map.1 he
              exact (HR.out z hz q hq).2 h)
            have KW3 : Keeps (fun b => A b ∨ D ≤ b) W0 W3 := HK.out.trans (K3.out.mono (fun b _ h => (HA.out.2.2 b h).1))
            have hsg := (env.out _ KW3).seg _ HI.out.2
            have hyl := mem_flat_len HI.out.2
            rw [← TT.out] at hyl
            have hi2 := HI.out.1
            have hcn := HC.out
            simp only [List.length_map, List.length_cons] at hcn
            have hpp := HP.out
            dsimp only at hsg hyl hi2
            have cp := pushRow_calls HS3 hsg (i + 1) (by omega) hwd (by omega) (by simp; omega) (by omega) (by omega)
            rw [Int.natCast_succ] at cp
            have ST := Lib.hid (fun e W4 h => ri_step (e := e) (W4 := W4) HJK.out HJF.out hW2 HH.out HA.out HR.out HES.out HPO.out HRD.out HM.out HMIN.out HP.out HMM.out J3.out K3.out F3.out KW3 h)
            have LT3 := Lib.hid HS3.lt
            have hiB : i < 1000000 := by omega
            clear d0 d1 d2 HS3 KW3 hsg hyl hi2 hcn hpp
            have e7 : b6 < W3.heap.size := Nat.lt_of_lt_of_le hb6 K3.out.size
            gi_wp2
            refine ⟨trivial, (fun h => by cases h), (callsIn_wide.2 cp).mono ?_⟩
            intro e W4 h
            obtain ⟨L2, own', p', rfl, hJ4, hK4, hH4, hA4, hR4, hM4, hp4, hm4, hk4, hPO4, hPL4⟩ := ST.out e W4 h
            have PO4 := Lib.hid hPO4
            have PL4 : Hid (∀ x ∈ pre ++ [(ra, rz, rc)], ∀ q, x.1 = some q → q.block < W4.heap.size) := Lib.hid (fun x hx q hq => Nat.lt_of_lt_of_le (hPL4 x hx q hq) hk4.size)
            have e8 : W4.heap[b6]? = W3.heap[b6]? := hk4.block b6 e7 (fun h => by
              rcases h with h | h
              · exact g2 h
              · exact HG.out.1 h)
            have d0 : W4.cell? ⟨b6, 0, none⟩ = some (.pointer yp) := (World.cell?_of_block (a := ⟨b6, 0, none⟩) e8).trans d0'
            have d1 : W4.cell? ⟨b6, 1, none⟩ = some (.int .i64 i) := (World.cell?_of_block (a := ⟨b6, 1, none⟩) e8).trans d1'
            have d2 : W4.cell? ⟨b6, 2, none⟩ = some (.slice ra rz.length rc) := (World.cell?_of_block (a := ⟨b6, 2, none⟩) e8).trans d2'
            have HJ4 := Lib.hid hJ4
            have HK4 := Lib.hid hK4
            have HH4 := Lib.hid hH4
            have HA4 := Lib.hid hA4
            have HR4 := Lib.hid hR4
            have HM4 := Lib.hid hM4
            have HP4 := Lib.hid hp4
            have HC4 := Lib.hid hm4
            have E4 := Lib.hid (Nat.le_trans HES.out (Nat.le_trans K3.out.size hk4.size))
            clear h ST cp d0' d1' d2' e7 e8 hJ4 hK4 hH4 hA4 hR4 hM4 hp4 hm4 hk4 hPO4 hPL4
            gi_wp2
            have B5 := Lib.hid ((Below.refl W4.heap.size W4).alloc (Nat.le_refl _) (.cells #[.pointer yp, .int .i64 i, .slice ra rz.length rc] 90))
            have BX : Hid ((W4.alloc (.cells #[.pointer yp, .int .i64 i, .slice ra rz.length rc] 90)).heap[W4.heap.size]? = some (.cells #[.pointer yp, .int .i64 i, .slice ra rz.length rc] 90 (0, 0))) := Lib.hid (World.alloc_heap_new _ _)
            have S5 : Hid ((W4.alloc (.cells #[.pointer yp, .int .i64 i, .slice ra rz.length rc] 90)).heap.size = W4.heap.size + 1) := Lib.hid (by simp)
            generalize World.alloc W4 _ = W5 at *
            have HH5 := Lib.hid (HH4.out.below B5.out)
            have HJ5 := Lib.hid (HJK.out _ _ _ _ (fun _ => False) HJ4.out (Keeps.of_below B5.out) (fun _ h => h.elim))
            have HK5 := Lib.hid (HK4.out.trans (Keeps.of_below B5.out))
            have F4 := Lib.hid (HJF.out _ _ _ HJ4.out)
            have hc5 := HM4.out.count
            have hc6 : L2.length ≤ 1000000 := by omega
            have cp := pop_any HH5.out hc6
            have MK : Hid (∀ (a : Option Addr) (x : Int) (r : Option Addr) (z : List Int) (k : Nat) (b : Bool) (W6 : World) (h : PI W5 E own' L2 p' ((a, x), (r, z, k)) b W6),
                RI2 segs T A D E E W0 J (.pointer (some ⟨W4.heap.size, 0, none⟩)) (.bool b) (((W6.setCell ⟨W4.heap.size, 0, none⟩ (.pointer a)).setCell ⟨W4.heap.size, 1, none⟩ (.int .i64 x)).setCell ⟨W4.heap.size, 2, none⟩ (.slice r z.length k)) (L2.flatMap restP).length ∧ W6.heap[W4.heap.size]? = some (.cells #[.pointer yp, .int .i64 i, .slice ra rz.length rc] 90 (0, 0))) := by
              refine Lib.hid (fun a x r z k b W6 h => ?_)
              have n1 : W4.heap.size ≠ E := by have := HH4.out.lt.1; omega
              have n2 : own' ≠ some W4.heap.size := fun e => by have := HH4.out.lt.2 _ e; omega
              have h6 : W6.heap[W4.heap.size]? = some (.cells #[.pointer yp, .int .i64 i, .slice ra rz.length rc] 90 (0, 0)) := (h.1.block _ (by have := S5.out; omega) (fun h => by
                rcases h with h | h
                · exact n1 h
                · exact n2 h)).trans BX.out
              refine ⟨RI2.make HJ5.out HK5.out HA4.out HR4.out HM4.out HP4.out (by have := S5.out; have := E4.out; omega) hW2 HJK.out h (keeps_set3 _ _ _ _ _) (heap_set3 h6) E4.out n1 n2 (fun hF => by have := F4.out _ hF; omega) (fun y hy q hq => ?_) (fun x hx q hq => ⟨by have := PL4.out x hx q hq; have := S5.out; omega, (PO4.out x hx q hq).2⟩) (fun x hx q hq => by have := PL4.out x hx q hq; omega), h6⟩
              have := (HH4.out.rd y.1 (List.mem_map_of_mem hy)).2.2.2 q hq; omega
            clear hc5 hc6 d0 d1 d2
            refine ⟨trivial, (fun h => by cases h), (callsIn_wide.2 cp).mono ?_⟩
            rintro e W6 ⟨ca', ci', cr', cz', ck', cb', rfl, hpi⟩
            obtain ⟨h6, h7⟩ := MK.out _ _ _ _ _ _ _ hpi
            have N6 := Lib.hid h6
            have d0 : W6.cell? ⟨W4.heap.size, 0, none⟩ = some (.pointer yp) := by rw [cell_of_row W6 _ 0 _ 90 (0, 0) h7]; rfl
            have d1 : W6.cell? ⟨W4.heap.size, 1, none⟩ = some (.int .i64 i) := by rw [cell_of_row W6 _ 1 _ 90 (0, 0) h7]; rfl
            have d2 : W6.cell? ⟨W4.heap.size, 2, none⟩ = some (.slice ra rz.length rc) := by rw [cell_of_row W6 _ 2 _ 90 (0, 0) h7]; rfl
            have f0 : W6.frozen? ⟨W4.heap.size, 0, none⟩ = false := by simp [World.frozen?, h7]
            have f1 : W6.frozen? ⟨W4.heap.size, 1, none⟩ = false := by simp [World.frozen?, h7]
            have f2 : W6.frozen? ⟨W4.heap.size, 2, none⟩ = false := by simp [World.frozen?, h7]
            clear hpi MK cp h6 h7
            gi_wp2
            go_roundw
            case rel => exact Lib.hid ⟨_, N6.out⟩
            case measure => exact Nat.lt_of_le_of_lt (lst_le N6.out) (Nat.lt_of_lt_of_le HC4.out (HM0.out.2 _ (lst_is ⟨m, HM0.out.1⟩)))
          · have HX := Lib.hid hx
            clear hx hRd hy d0 d1 d2
            gi_wp2
            try simp only [Exit.inBlock, Exit.then]
            refine bodyPost_ret (results_none rfl _ _ _) rfl ?_
            exact ⟨⟨_, rfl⟩, .inr ⟨_, by unfold RSp; simp; omega, HX.out⟩⟩
        · have HJ := Lib.hid hJ
          have HM := Lib.hid hM
          clear hJ hK hH hA hR hEs g1 g2 g3 g4 g5 hM hm hPO
          gi_wp2
          go_end0
          exact ⟨⟨_, rfl⟩, .inl ⟨pre, F, ⟨by have := HM.out.perm; simpa using this, HM.out.asc⟩, HJ.out⟩⟩
end Go.Proofs.Ytepkmhcchmladaa
