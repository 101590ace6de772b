/- The atom that is made of one that came in (A.Atom). -/
import Derived.Test.YtaglbeokecbihaaDoorSyA
namespace Go.Proofs.YtaglbeokecbihaaDoor
open Go.RowKit
set_option linter.unusedVariables false
set_option linter.unusedSimpArgs false

abbrev TV := Int × Int × Int
def atT (T : List TV) (i : Nat) : TV := T[i]?.getD (0, 0, 0)
theorem atT_mem {T : List TV} {i : Nat} (h : i < T.length) : atT T i ∈ T := by simp only [atT, List.getElem?_eq_getElem h, Option.getD_some]; exact List.getElem_mem h
/-- The slice at a reads as the terms T that came in, before block B. -/
structure TIn (B : Nat) (w : World) (a : Option Addr) (T : List TV) : Prop where
  ok : ∀ x ∈ T, Gok x.2.2
  cells : T = [] ∨ ∃ b off, a = some ⟨b, off, none⟩ ∧ b < B ∧ ∀ i, i < T.length → w.cell? ⟨b, off + i * 3, none⟩ = some (.int .i64 (atT T i).1) ∧ w.cell? ⟨b, off + i * 3 + 1, none⟩ = some (.int .i64 (atT T i).2.1) ∧ w.cell? ⟨b, off + i * 3 + 2, none⟩ = some (.int .i64 (atT T i).2.2)
theorem TIn.at {B : Nat} {w w' : World} {a : Option Addr} {T : List TV} (h : TIn B w a T) (hb : Below B w w') {i : Nat} (hi : i < T.length) : ∃ b off, a = some ⟨b, off, none⟩ ∧ w'.cell? ⟨b, off + i * 3, none⟩ = some (.int .i64 (atT T i).1) ∧ w'.cell? ⟨b, off + i * 3 + 1, none⟩ = some (.int .i64 (atT T i).2.1) ∧ w'.cell? ⟨b, off + i * 3 + 2, none⟩ = some (.int .i64 (atT T i).2.2) := by
  rcases h.cells with h0 | ⟨b, off, ha, hlt, hc⟩
  · subst h0; simp at hi
  · obtain ⟨c0, c1, c2⟩ := hc i hi
    exact ⟨b, off, ha, (hb.cell (p := ⟨b, _, none⟩) hlt).trans c0, (hb.cell (p := ⟨b, _, none⟩) hlt).trans c1, (hb.cell (p := ⟨b, _, none⟩) hlt).trans c2⟩
theorem TIn.on {B : Nat} {w w' : World} {a : Option Addr} {T : List TV} (h : TIn B w a T) (hb : Below B w w') : TIn B w' a T := ⟨h.ok, by
  rcases h.cells with h0 | ⟨b, off, ha, hlt, hc⟩
  · exact .inl h0
  · exact .inr ⟨b, off, ha, hlt, fun i hi => ⟨(hb.cell (p := ⟨b, _, none⟩) hlt).trans (hc i hi).1, (hb.cell (p := ⟨b, _, none⟩) hlt).trans (hc i hi).2.1, (hb.cell (p := ⟨b, _, none⟩) hlt).trans (hc i hi).2.2⟩⟩⟩
def tmOf (x : TV) : Tm := tmM x.1 x.2.1 x.2.2
def atomL (T : List TV) : List Tm := if T = [] then [⟨0, ⟨#[88]⟩, 0⟩] else T.map tmOf
/-- The slice at a reads as the terms l; it lies in a block from L on and before N. -/
def TmFr (L N : Nat) (w : World) (a : Option Addr) (l : List Tm) : Prop :=
  (∀ t ∈ l, TmOK t) ∧ (l = [] ∨ ∃ g, a = some ⟨g, 0, none⟩ ∧ L ≤ g ∧ g < N ∧ ∀ i, i < l.length → w.cell? ⟨g, i * 3, none⟩ = some (.int .i64 (tmAt l i).kind) ∧ w.cell? ⟨g, i * 3 + 1, none⟩ = some (.string (tmAt l i).text) ∧ w.cell? ⟨g, i * 3 + 2, none⟩ = some (.int .i64 (tmAt l i).n))
theorem TmFr.into {L N : Nat} {w : World} {a : Option Addr} {l : List Tm} (h : TmFr L N w a l) : TmRow N w a l := ⟨h.1, by
  rcases h.2 with h0 | ⟨g, ha, _, hg, hc⟩
  · exact .inl h0
  · exact .inr ⟨g, ha, hg, hc⟩⟩
theorem TmFr.on {L N : Nat} {w w' : World} {a : Option Addr} {l : List Tm} (h : TmFr L N w a l) (hb : ∀ k, L ≤ k → k < N → w'.heap[k]? = w.heap[k]?) : TmFr L N w' a l := ⟨h.1, by
  rcases h.2 with h0 | ⟨g, ha, hl, hg, hc⟩
  · exact .inl h0
  · exact .inr ⟨g, ha, hl, hg, fun i hi => ⟨(World.cell?_of_block (a := ⟨g, _, none⟩) (hb g hl hg)).trans (hc i hi).1, (World.cell?_of_block (a := ⟨g, _, none⟩) (hb g hl hg)).trans (hc i hi).2.1, (World.cell?_of_block (a := ⟨g, _, none⟩) (hb g hl hg)).trans (hc i hi).2.2⟩⟩⟩
theorem TmFr.mono {L L' N N' : Nat} {w : World} {a : Option Addr} {l : List Tm} (h : TmFr L N w a l) (hL : L' ≤ L) (hN : N ≤ N') : TmFr L' N' w a l := ⟨h.1, by
  rcases h.2 with h0 | ⟨g, ha, hl, hg, hc⟩
  · exact .inl h0
  · exact .inr ⟨g, ha, by omega, by omega, hc⟩⟩
def AtRet (w : World) (pred : ByteArray) (l : List Tm) (e : Ending) (w' : World) : Prop := ∃ a c, e = .returned (.agg #[.string pred, .slice a l.length c]) ∧ TmFr w.heap.size w'.heap.size w' a l ∧ Below w.heap.size w w'
def tmC3 (t : Tm) : List Value := [.int .i64 t.kind, .string t.text, .int .i64 t.n]
def flatM (l : List Tm) : List Value := l.flatMap tmC3
theorem flatM_len (l : List Tm) : (flatM l).length = l.length * 3 := by
  induction l with
  | nil => rfl
  | cons t l ih => simp only [flatM, List.flatMap_cons, List.length_append, List.length_cons] at *; rw [ih]; simp [tmC3]; omega
theorem flatM_push (l : List Tm) (t : Tm) : flatM (l ++ [t]) = flatM l ++ [.int .i64 t.kind, .string t.text, .int .i64 t.n] := by simp [flatM, tmC3]
theorem flatM_at {l : List Tm} {i : Nat} (h : i < l.length) : (flatM l)[i * 3]? = some (.int .i64 (tmAt l i).kind) ∧ (flatM l)[i * 3 + 1]? = some (.string (tmAt l i).text) ∧ (flatM l)[i * 3 + 2]? = some (.int .i64 (tmAt l i).n) := by
  induction l generalizing i with
  | nil => simp at h
  | cons t l ih =>
    cases i with
    | zero => simp [flatM, tmC3, tmAt]
    | succ i =>
      have := ih (i := i) (by simpa using h)
      rw [show (i + 1) * 3 = i * 3 + 3 by omega]
      simpa [flatM, tmC3, tmAt] using this
theorem fr_of_owns {w : World} {base : Nat} {v : Value} {n : Nat} {l : List Tm} (h : w.ownsRow base 44 3 v n (flatM l)) (hok : ∀ t ∈ l, TmOK t) : ∃ a cap, v = .slice a l.length cap ∧ TmFr base w.heap.size w a l := by
  have hn : n = l.length := by have := h.1; rw [flatM_len] at this; omega
  rcases h.2 with ⟨rfl, h0⟩ | ⟨g, cap, cur, rfl, hb, hh, _⟩
  · have : l = [] := List.eq_nil_of_length_eq_zero (by omega)
    subst this
    exact ⟨none, 0, rfl, hok, .inl rfl⟩
  · subst hn
    refine ⟨_, cap, rfl, hok, .inr ⟨g, rfl, hb, (Array.getElem?_eq_some_iff.1 hh).1, fun i hi => ?_⟩⟩
    obtain ⟨f0, f1, f2⟩ := flatM_at hi
    exact ⟨(h.cellAt (i * 3) (by omega)).trans f0, (h.cellAt (i * 3 + 1) (by omega)).trans f1, (h.cellAt (i * 3 + 2) (by omega)).trans f2⟩
theorem owns_on {w w' : World} {base : Nat} {t : TypeId} {k : Nat} {v : Value} {n : Nat} {xs : List Value} (h : w.ownsRow base t k v n xs) (hb : ∀ r, base ≤ r → r < w.heap.size → w'.heap[r]? = w.heap[r]?) : w'.ownsRow base t k v n xs := by
  refine ⟨h.1, ?_⟩
  rcases h.2 with h0 | ⟨r, cap, cur, rfl, hb2, hr, hrest⟩
  · exact .inl h0
  · exact .inr ⟨r, cap, cur, rfl, hb2, (hb r hb2 (Array.getElem?_eq_some_iff.1 hr).1).trans hr, hrest⟩
noncomputable def appM (ats : Array TypeId) (ty : TypeId) (args : Array Value) : Sem Value := Builtin.append_ ats ty args
theorem app_rule (ats : Array TypeId) (ty : TypeId) (args : Array Value) : Builtin.append_ ats ty args = appM ats ty args := rfl
theorem i44 : (Tryd.prog.info? 44).map (fun i => (i.zero, i.size, i.bytes)) = some (some (.agg #[.int .i64 0, .string ⟨#[]⟩, .int .i64 0]), 3, 32) := by kernel_rfl
theorem cell_three_new (w : World) (x0 x1 x2 : Value) (t : TypeId) : ∀ j u, [x0, x1, x2][j]? = some u → (w.alloc (.cells #[x0, x1, x2] t)).cell? ((⟨w.heap.size, 0, none⟩ : Addr).add j) = some u := by
  intro j u h
  match j, h with
  | 0, h => cases h; simp [Addr.add]
  | 1, h => cases h; simp [Addr.add]
  | 2, h => cases h; simp [Addr.add]
  | j + 3, h => simp at h
/-- A term appended to a row of the call's own. -/
theorem app_tm {w : World} {base : Nat} {v : Value} {l : List Tm} (h : w.ownsRow base 44 3 v l.length (flatM l)) (hl : l.length ≤ 1000) (hb : base ≤ w.heap.size) (t : Tm) : ∃ v' w', (appM #[47, 47] 47 #[v, .slice (some ⟨w.heap.size, 0, none⟩) 1 1]).run Tryd.prog (w.alloc (.cells #[.int .i64 t.kind, .string t.text, .int .i64 t.n] 44)) = .ok v' w' ∧ w'.ownsRow base 44 3 v' (l ++ [t]).length (flatM (l ++ [t])) ∧ (w.alloc (.cells #[.int .i64 t.kind, .string t.text, .int .i64 t.n] 44)).grownBy w' v.ownBlock := by
  obtain ⟨i0, hi0, hz0, hz1, hz2⟩ : ∃ i0, Tryd.prog.info? 44 = some i0 ∧ i0.zero = some (.agg #[.int .i64 0, .string ⟨#[]⟩, .int .i64 0]) ∧ i0.size = 3 ∧ i0.bytes = 32 := by
    have h9 := i44
    cases hi : Tryd.prog.info? 44 with
    | none => rw [hi] at h9; cases h9
    | some i =>
      rw [hi] at h9
      simp only [Option.map_some, Option.some.injEq, Prod.mk.injEq] at h9
      exact ⟨i, rfl, h9.1, h9.2.1, h9.2.2⟩
  obtain ⟨v', w', hr, hown, hgrow, _⟩ := run_append_own (P := Tryd.prog) (w.alloc (.cells #[.int .i64 t.kind, .string t.text, .int .i64 t.n] 44)) base 47 47 44 i0 (.agg #[.int .i64 0, .string ⟨#[]⟩, .int .i64 0]) 3 32 Tryd.underlying47 hi0 hz0 hz1 hz2 rfl (by decide) v l.length (flatM l) (h.alloc _) ⟨w.heap.size, 0, none⟩ 1 1 [.int .i64 t.kind, .string t.text, .int .i64 t.n] rfl (cell_three_new w _ _ _ 44) (fun u hu => by
    simp only [List.mem_cons, List.not_mem_nil, or_false] at hu
    rcases hu with rfl | rfl | rfl <;> rfl) (by unfold maxLen; omega) (by omega) (by simp; omega)
  exact ⟨v', w', hr, by rw [flatM_push, List.length_append]; exact hown, hgrow⟩
end Go.Proofs.YtaglbeokecbihaaDoor
