import Derived.Test.YtepkmhcchmladaaSg2
import Derived.Lib.SliceRun
/- slices.CompactFunc over lists of rows. -/
namespace Go.Proofs.Ytepkmhcchmladaa
open Go.RowKit
set_option linter.unusedVariables false
set_option linter.unusedSimpArgs false

/-- Of rows that are alike, behind each other, the first. -/
def compG (prev : List Int) : List RV → List RV
  | [] => []
  | y :: l => if y.2.1 = prev then compG y.2.1 l else y :: compG y.2.1 l
def compL : List RV → List RV
  | [] => []
  | x :: l => x :: compG x.2.1 l
def lastZ (prev : List Int) : List RV → List Int
  | [] => prev
  | y :: l => lastZ y.2.1 l
theorem compG_same {prev : List Int} {l : List RV} {y : RV} (h : y.2.1 = lastZ prev l) : compG prev (l ++ [y]) = compG prev l := by
  induction l generalizing prev with
  | nil => show (if y.2.1 = prev then compG y.2.1 [] else y :: compG y.2.1 []) = []; rw [if_pos (show y.2.1 = prev from h)]; rfl
  | cons z l ih =>
    show (if z.2.1 = prev then compG z.2.1 (l ++ [y]) else z :: compG z.2.1 (l ++ [y])) = (if z.2.1 = prev then compG z.2.1 l else z :: compG z.2.1 l)
    rw [ih h]
theorem compG_new {prev : List Int} {l : List RV} {y : RV} (h : ¬ y.2.1 = lastZ prev l) : compG prev (l ++ [y]) = compG prev l ++ [y] := by
  induction l generalizing prev with
  | nil => show (if y.2.1 = prev then compG y.2.1 [] else y :: compG y.2.1 []) = [y]; rw [if_neg (show ¬ y.2.1 = prev from h)]; rfl
  | cons z l ih =>
    show (if z.2.1 = prev then compG z.2.1 (l ++ [y]) else z :: compG z.2.1 (l ++ [y])) = (if z.2.1 = prev then compG z.2.1 l else z :: compG z.2.1 l) ++ [y]
    rw [ih h]
    by_cases h1 : z.2.1 = prev
    · rw [if_pos h1, if_pos h1]
    · rw [if_neg h1, if_neg h1]; rfl
theorem lastZ_at (prev : List Int) (x : RV) (l : List RV) : lastZ prev (x :: l) = (atV (x :: l) l.length).2.1 := by
  induction l generalizing prev x with
  | nil => simp [lastZ, atV]
  | cons y l ih => rw [lastZ, ih]; simp [atV]
theorem comp_parts {L : List RV} {k : Nat} (h1 : 1 ≤ k) (h : k < L.length) : ∃ x l, L.take k = x :: l ∧ L.take (k + 1) = x :: (l ++ [atV L k]) ∧ lastZ x.2.1 l = (atV L (k - 1)).2.1 := by
  obtain ⟨x, l, e⟩ : ∃ x l, L.take k = x :: l := by
    cases e : L.take k with
    | nil => have := congrArg List.length e; simp only [List.length_take, List.length_nil] at this; omega
    | cons x l => exact ⟨x, l, rfl⟩
  have hl : l.length = k - 1 := by have := congrArg List.length e; simp at this; omega
  refine ⟨x, l, e, by rw [List.take_succ_eq_append_getElem h, ← atV_eq h, e]; rfl, ?_⟩
  have := lastZ_at x.2.1 x l
  rw [lastZ, hl, ← e] at this
  rw [this]; unfold atV; rw [List.getElem?_take_of_lt (by omega)]
theorem comp_same {L : List RV} {k : Nat} (h1 : 1 ≤ k) (h : k < L.length) (he : (atV L k).2.1 = (atV L (k - 1)).2.1) : compL (L.take (k + 1)) = compL (L.take k) := by
  obtain ⟨x, l, e1, e2, e3⟩ := comp_parts h1 h
  rw [e1, e2]
  show x :: compG x.2.1 (l ++ [atV L k]) = x :: compG x.2.1 l
  rw [compG_same (he.trans e3.symm)]
theorem comp_new {L : List RV} {k : Nat} (h1 : 1 ≤ k) (h : k < L.length) (he : ¬ (atV L k).2.1 = (atV L (k - 1)).2.1) : compL (L.take (k + 1)) = compL (L.take k) ++ [atV L k] := by
  obtain ⟨x, l, e1, e2, e3⟩ := comp_parts h1 h
  rw [e1, e2]
  show x :: compG x.2.1 (l ++ [atV L k]) = (x :: compG x.2.1 l) ++ [atV L k]
  rw [compG_new (fun h => he (h.trans e3))]; rfl
theorem comp_one {L : List RV} (h : 1 ≤ L.length) : compL (L.take 1) = L.take 1 := by
  cases L with
  | nil => simp at h
  | cons x l => simp [compL, compG]
theorem compG_len (p : List Int) (l : List RV) : (compG p l).length ≤ l.length := by
  induction l generalizing p with
  | nil => simp [compG]
  | cons x l ih =>
    simp only [compG]
    have := ih x.2.1
    split <;> simp <;> omega
theorem compG_sub (p : List Int) (l : List RV) : ∀ x ∈ compG p l, x ∈ l := by
  induction l generalizing p with
  | nil => simp [compG]
  | cons y l ih =>
    intro x hx
    simp only [compG] at hx
    split at hx
    · exact List.mem_cons_of_mem _ (ih _ x hx)
    · rcases List.mem_cons.1 hx with e | e
      · subst e; simp
      · exact List.mem_cons_of_mem _ (ih _ x e)
theorem comp_sub (l : List RV) : ∀ x ∈ compL l, x ∈ l := by
  cases l with
  | nil => simp [compL]
  | cons y l =>
    intro x hx
    rcases List.mem_cons.1 hx with e | e
    · subst e; simp
    · exact List.mem_cons_of_mem _ (compG_sub _ _ x e)
theorem compG_mem (p : List Int) (l : List RV) : ∀ x ∈ l, x.2.1 = p ∨ x.2.1 ∈ (compG p l).map (·.2.1) := by
  induction l generalizing p with
  | nil => simp
  | cons y l ih =>
    intro x hx
    simp only [compG]
    rcases List.mem_cons.1 hx with e | e
    · subst e
      by_cases h : x.2.1 = p
      · exact .inl h
      · rw [if_neg h]; exact .inr (by simp)
    · rcases ih y.2.1 x e with h | h
      · by_cases h' : y.2.1 = p
        · exact .inl (h.trans h')
        · rw [if_neg h']; exact .inr (by simp [h])
      · by_cases h' : y.2.1 = p
        · rw [if_pos h']; exact .inr h
        · rw [if_neg h']; exact .inr (by simp only [List.map_cons, List.mem_cons]; exact .inr h)
theorem comp_mem (l : List RV) (zs : List Int) : zs ∈ (compL l).map (·.2.1) ↔ zs ∈ l.map (·.2.1) := by
  constructor
  · intro h
    obtain ⟨x, hx, e⟩ := List.mem_map.1 h
    exact List.mem_map.2 ⟨x, comp_sub l x hx, e⟩
  · intro h
    obtain ⟨x, hx, e⟩ := List.mem_map.1 h
    cases l with
    | nil => simp at hx
    | cons y l =>
      rcases List.mem_cons.1 hx with h | h
      · subst h; subst e; simp [compL]
      · rcases compG_mem y.2.1 l x h with h' | h'
        · rw [← e, h']; simp [compL]
        · rw [← e]; simp only [compL, List.map_cons, List.mem_cons]; exact .inr h'
theorem compG_asc (p : List Int) (l : List RV) (hp : ∀ x ∈ l, ¬ cmpR x.2.1 p < 0) (hl : AscV l) : (∀ x ∈ compG p l, cmpR p x.2.1 < 0) ∧ ((compG p l).map (·.2.1)).Pairwise (fun a b => cmpR a b < 0) := by
  induction l generalizing p with
  | nil => simp [compG]
  | cons y l ih =>
    obtain ⟨h1, h2⟩ := List.pairwise_cons.1 hl
    obtain ⟨i1, i2⟩ := ih y.2.1 h1 h2
    simp only [compG]
    by_cases e : y.2.1 = p
    · rw [if_pos e]; rw [e] at i1 i2 ⊢; exact ⟨i1, i2⟩
    · rw [if_neg e]
      have hy : cmpR p y.2.1 < 0 := by
        rcases cmpR_tri p y.2.1 with h | h | h
        · exact h
        · exact absurd h.symm e
        · exact absurd ((cmpR_neg y.2.1 p).2 h) (hp y (by simp))
      refine ⟨fun x hx => ?_, ?_⟩
      · rcases List.mem_cons.1 hx with h | h
        · rw [h]; exact hy
        · exact cmpR_trans hy (i1 x h)
      · rw [List.map_cons, List.pairwise_cons]
        refine ⟨fun z hz => ?_, i2⟩
        obtain ⟨x, hx, e'⟩ := List.mem_map.1 hz
        rw [← e']; exact i1 x hx
theorem comp_sorted {l : List RV} (hl : AscV l) : SortedR ((compL l).map (·.2.1)) := by
  cases l with
  | nil => exact List.Pairwise.nil
  | cons y l =>
    obtain ⟨h1, h2⟩ := List.pairwise_cons.1 hl
    obtain ⟨i1, i2⟩ := compG_asc y.2.1 l h1 h2
    unfold SortedR
    simp only [compL, List.map_cons, List.pairwise_cons]
    refine ⟨fun z hz => ?_, i2⟩
    obtain ⟨x, hx, e'⟩ := List.mem_map.1 hz
    rw [← e']; exact i1 x hx
end Go.Proofs.Ytepkmhcchmladaa
