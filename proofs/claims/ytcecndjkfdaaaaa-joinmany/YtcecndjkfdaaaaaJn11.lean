/- The mathematics of join's partners: two lists in the order of their keys, gone through side by side. -/
import Derived.Test.YtcecndjkfdaaaaaJn8
namespace Go.Proofs.Ytcecndjkfdaaaaa
open Go.RowKit Go.Shelf
set_option linter.unusedVariables false
set_option linter.unusedSimpArgs false

/-- The numbers of the rows with a key. -/
def numsOf (L : List KE) (κ : List Int) : List Nat := (L.filter fun y => decide (y.1.2.1 = κ)).map fun y => y.2
theorem numsOf_nil (κ : List Int) : numsOf [] κ = [] := rfl
theorem numsOf_cons (y : KE) (L : List KE) (κ : List Int) : numsOf (y :: L) κ = if y.1.2.1 = κ then y.2 :: numsOf L κ else numsOf L κ := by
  unfold numsOf
  by_cases h : y.1.2.1 = κ <;> simp [h]
theorem numsOf_append (L M : List KE) (κ : List Int) : numsOf (L ++ M) κ = numsOf L κ ++ numsOf M κ := by simp [numsOf]
theorem numsOf_none {L : List KE} {κ : List Int} (h : ∀ y ∈ L, y.1.2.1 ≠ κ) : numsOf L κ = [] := by
  unfold numsOf
  rw [List.filter_eq_nil_iff.2 (fun y hy => by simpa using h y hy)]; rfl
theorem numsOf_all {L : List KE} {κ : List Int} (h : ∀ y ∈ L, y.1.2.1 = κ) : numsOf L κ = L.map fun y => y.2 := by
  unfold numsOf
  rw [List.filter_eq_self.2 (fun y hy => by simpa using h y hy)]
theorem numsOf_rows {kbs : List (List Int)} {L : List KE} (hp : (toK L).Perm ((List.range kbs.length).map fun i => (kyAt kbs i, i))) (ha : AscK L) (κ : List Int) : numsOf L κ = rowsOf kbs κ := by
  have e1 : numsOf L κ = ((toK L).filter fun y => decide (y.1 = κ)).map fun y => y.2 := by
    unfold numsOf toK
    rw [List.filter_map, List.map_map]; rfl
  have e2 : rowsOf kbs κ = (((List.range kbs.length).map fun i => (kyAt kbs i, i)).filter fun y => decide (y.1 = κ)).map fun y => y.2 := by
    unfold rowsOf rowsTo
    rw [List.filter_map, List.map_map]
    simp [Function.comp_def]
  have hperm : (numsOf L κ).Perm (rowsOf kbs κ) := by rw [e1, e2]; exact (hp.filter _).map _
  refine List.Perm.eq_of_pairwise (le := fun a b => a ≤ b) (fun a b _ _ h1 h2 => Nat.le_antisymm h1 h2) ?_ ?_ hperm
  · unfold numsOf
    rw [List.pairwise_map]
    refine (List.Pairwise.filter _ ha).imp_of_mem ?_
    intro x y hx hy h
    have h1 : x.1.2.1 = κ := by simpa using (List.mem_filter.1 hx).2
    have h2 : y.1.2.1 = κ := by simpa using (List.mem_filter.1 hy).2
    rcases h with h | h
    · rw [h1, h2, cmpR_self] at h; omega
    · exact h.2
  · unfold rowsOf rowsTo
    exact List.Pairwise.filter _ (List.pairwise_lt_range.imp (fun h => Nat.le_of_lt h))
theorem keysTo_range (rs : List (List Int)) (keys : List Int) : keysTo rs keys rs.length = (List.range (rs.map fun r => keyL r keys).length).map fun i => (kyAt (rs.map fun r => keyL r keys) i, i) := by
  unfold keysTo
  rw [List.length_map]
  refine List.map_congr_left (fun i hi => ?_)
  rw [kyAt_map (List.mem_range.1 hi)]

theorem cmpR_lt_ne {a b : List Int} (h : cmpR a b < 0) : a ≠ b := fun e => by rw [e, cmpR_self] at h; omega
/-- Behind the first row of an ordered list no key is less. -/
theorem asc_tail {x : KE} {l : List KE} (h : AscK (x :: l)) {y : KE} (hy : y ∈ x :: l) : cmpR x.1.2.1 y.1.2.1 < 0 ∨ x.1.2.1 = y.1.2.1 := by
  rcases List.mem_cons.1 hy with rfl | hy
  · exact .inr rfl
  · rcases (List.pairwise_cons.1 h).1 y hy with h | h
    · exact .inl h
    · exact .inr h.1
/-- What is left of both lists: no partner was passed by. -/
def MInv (B l r : List KE) : Prop := ∀ x ∈ l, numsOf B x.1.2.1 = numsOf r x.1.2.1
theorem minv_lt {B l r : List KE} {x y : KE} (h : MInv B (x :: l) (y :: r)) (hr : AscK (y :: r)) (hlt : cmpR x.1.2.1 y.1.2.1 < 0) : numsOf B x.1.2.1 = [] ∧ MInv B l (y :: r) := by
  refine ⟨?_, fun z hz => h z (List.mem_cons_of_mem _ hz)⟩
  rw [h x (List.mem_cons_self ..)]
  refine numsOf_none (fun z hz => ?_)
  rcases asc_tail hr hz with h1 | h1
  · exact (cmpR_lt_ne (cmpR_trans hlt h1)).symm
  · rw [← h1]; exact (cmpR_lt_ne hlt).symm
theorem minv_gt {B l r : List KE} {x y : KE} (h : MInv B (x :: l) (y :: r)) (hl : AscK (x :: l)) (hgt : 0 < cmpR x.1.2.1 y.1.2.1) : MInv B (x :: l) r := by
  have hlt := (cmpR_neg _ _).2 hgt
  intro z hz
  rw [h z hz, numsOf_cons, if_neg]
  rcases asc_tail hl hz with h1 | h1
  · exact cmpR_lt_ne (cmpR_trans hlt h1)
  · rw [← h1]; exact cmpR_lt_ne hlt
theorem atK_cons_zero (x : KE) (l : List KE) : atK (x :: l) 0 = x := rfl
theorem same_take {L : List KE} {n : Nat} (h : SameN L n) : ∀ z ∈ L.take n, z.1.2.1 = (atK L 0).1.2.1 := by
  intro z hz
  obtain ⟨i, hi, e⟩ := List.getElem_of_mem hz
  rw [List.length_take] at hi
  rw [List.getElem_take] at e
  have := h.2.2.1 i (by omega)
  rw [atK_eq (by omega), e] at this
  exact this
theorem same_drop {L : List KE} {n : Nat} (h : SameN L n) (ha : AscK L) : ∀ z ∈ L.drop n, z.1.2.1 ≠ (atK L 0).1.2.1 := by
  intro z hz
  by_cases hn : n < L.length
  · have h1 := h.2.2.2 hn
    have h0 : 0 < L.length := by omega
    rw [atK_eq hn] at h1
    rw [atK_eq h0] at h1 ⊢
    have hp := (List.pairwise_iff_getElem.1 ha) 0 n h0 hn (by have := h.1; omega)
    have hlt : cmpR L[0].1.2.1 L[n].1.2.1 < 0 := by
      rcases hp with hp | hp
      · exact hp
      · exact absurd hp.1.symm h1
    obtain ⟨i, hi, e⟩ := List.getElem_of_mem hz
    rw [List.length_drop] at hi
    rw [List.getElem_drop] at e
    rw [← e]
    by_cases hi0 : i = 0
    · subst hi0; exact (cmpR_lt_ne hlt).symm
    · rcases (List.pairwise_iff_getElem.1 ha) n (n + i) hn (by omega) (by omega) with h2 | h2
      · exact (cmpR_lt_ne (cmpR_trans hlt h2)).symm
      · rw [← h2.1]; exact (cmpR_lt_ne hlt).symm
  · rw [List.drop_eq_nil_of_le (by omega)] at hz; cases hz
theorem minv_eq {B L R : List KE} {n m : Nat} (h : MInv B L R) (hl : AscK L) (hr : AscK R) (hn : SameN L n) (hm : SameN R m) (he : (atK L 0).1.2.1 = (atK R 0).1.2.1) :
    (∀ z ∈ L.take n, numsOf B z.1.2.1 = (R.take m).map fun y => y.2) ∧ MInv B (L.drop n) (R.drop m) := by
  have hsplit : ∀ κ, numsOf R κ = numsOf (R.take m) κ ++ numsOf (R.drop m) κ := fun κ => by rw [← numsOf_append, List.take_append_drop]
  refine ⟨fun z hz => ?_, fun z hz => ?_⟩
  · rw [h z (List.mem_of_mem_take hz), hsplit, numsOf_all (fun y hy => (same_take hm y hy).trans (he.symm.trans (same_take hn z hz).symm)), numsOf_none (fun y hy => by rw [same_take hn z hz, he]; exact same_drop hm hr y hy), List.append_nil]
  · rw [h z (List.mem_of_mem_drop hz), hsplit, numsOf_none (fun y hy => by rw [same_take hm y hy, ← he]; exact (same_drop hn hl z hz).symm), List.nil_append]
theorem minv_end {B l : List KE} (h : MInv B l []) : ∀ x ∈ l, numsOf B x.1.2.1 = [] := fun x hx => (h x hx).trans (numsOf_nil _)
end Go.Proofs.Ytcecndjkfdaaaaa
