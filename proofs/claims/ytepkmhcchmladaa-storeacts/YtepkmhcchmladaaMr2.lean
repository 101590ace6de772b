import Derived.Test.YtepkmhcchmladaaMr1
/- Mathematics of merging: cursors over sorted relations; the least number with a property, as a loop's measure. -/
namespace Go.Proofs.Ytepkmhcchmladaa
open Go.RowKit
set_option linter.unusedVariables false
set_option linter.unusedSimpArgs false

theorem least_is {P : Nat → Prop} (h : ∃ k, P k) : ∃ k, P k ∧ ∀ j, P j → k ≤ j := by
  obtain ⟨k, hk⟩ := h
  induction k using Nat.strongRecOn with
  | _ k ih =>
    by_cases h : ∃ j, j < k ∧ P j
    · obtain ⟨j, hj, hp⟩ := h; exact ih j hj hp
    · exact ⟨k, hk, fun j hj => Nat.le_of_not_lt (fun hl => h ⟨j, hl, hj⟩)⟩
open Classical in
/-- The least number with a property. -/
noncomputable def lst (P : Nat → Prop) : Nat := if h : ∃ k, P k then Classical.choose (least_is h) else 0
theorem lst_is {P : Nat → Prop} (h : ∃ k, P k) : P (lst P) := by
  unfold lst; rw [dif_pos h]; exact (Classical.choose_spec (least_is h)).1
theorem lst_le {P : Nat → Prop} {j : Nat} (h : P j) : lst P ≤ j := by
  unfold lst; rw [dif_pos ⟨j, h⟩]; exact (Classical.choose_spec (least_is ⟨j, h⟩)).2 j h

def leR (a b : List Int) : Prop := cmpR a b ≤ 0
theorem leR_iff (a b : List Int) : leR a b ↔ cmpR a b < 0 ∨ a = b := by
  unfold leR
  constructor
  · intro h
    rcases cmpR_tri a b with h1 | h1 | h1
    · exact .inl h1
    · exact .inr h1
    · omega
  · rintro (h | rfl)
    · omega
    · rw [cmpR_self]; omega
theorem leR_refl (a : List Int) : leR a a := (leR_iff a a).2 (.inr rfl)
theorem leR_trans {a b c : List Int} (h : leR a b) (h' : leR b c) : leR a c := by
  rcases (leR_iff a b).1 h with h1 | rfl
  · rcases (leR_iff b c).1 h' with h2 | rfl
    · exact (leR_iff a c).2 (.inl (cmpR_trans h1 h2))
    · exact h
  · exact h'

/-- A cursor with its relation's rows. -/
abbrev CP := Cu.CE × List (List Int)
def rowP (y : CP) : List Int := y.1.1.2.2.1
def restP (y : CP) : List (List Int) := y.2.drop y.1.1.1.2.toNat
def OkP (segs : List (Option Addr × List (List Int))) (y : CP) : Prop :=
  ∃ i : Nat, y.1.1.1.2 = (i : Int) ∧ i < y.2.length ∧ (y.1.1.1.1, y.2) ∈ segs ∧ rowP y = rowAt y.2 i ∧ SortedR y.2
theorem OkP.rest {segs : List (Option Addr × List (List Int))} {y : CP} (h : OkP segs y) : ∃ i : Nat, y.1.1.1.2 = (i : Int) ∧ i < y.2.length ∧ restP y = rowP y :: y.2.drop (i + 1) := by
  obtain ⟨i, h1, h2, h3, h4, h5⟩ := h
  refine ⟨i, h1, h2, ?_⟩
  unfold restP
  rw [h1, Int.toNat_natCast, h4, List.drop_eq_getElem_cons h2]
  simp [rowAt, h2]
theorem OkP.pos {segs : List (Option Addr × List (List Int))} {y : CP} (h : OkP segs y) : 0 < (restP y).length := by
  obtain ⟨i, _, _, e⟩ := h.rest
  rw [e]; simp
/-- pre was handed over, the cursors L are left. -/
structure MI (segs : List (Option Addr × List (List Int))) (T pre : List (List Int)) (L : List CP) : Prop where
  perm : T.Perm (pre ++ L.flatMap restP)
  asc : pre.Pairwise leR
  le : ∀ a ∈ pre, ∀ y ∈ L, leR a (rowP y)
  ok : ∀ y ∈ L, OkP segs y
theorem MI.turn {segs : List (Option Addr × List (List Int))} {T pre : List (List Int)} {L L' : List CP} (h : MI segs T pre L) (hp : L.Perm L') : MI segs T pre L' :=
  ⟨h.perm.trans ((hp.flatMap_right restP).append_left pre), h.asc, fun a ha y hy => h.le a ha y (hp.symm.subset hy), fun y hy => h.ok y (hp.symm.subset hy)⟩
theorem MI.count {segs : List (Option Addr × List (List Int))} {T pre : List (List Int)} {L : List CP} (h : MI segs T pre L) : T.length = pre.length + (L.flatMap restP).length ∧ L.length ≤ (L.flatMap restP).length := by
  refine ⟨by rw [h.perm.length_eq, List.length_append], ?_⟩
  have := h.ok
  clear h
  induction L with
  | nil => simp
  | cons y L ih =>
    have h1 := (this y List.mem_cons_self).pos
    have h2 := ih (fun z hz => this z (List.mem_cons_of_mem _ hz))
    simp only [List.length_cons, List.flatMap_cons, List.length_append]
    omega
/-- The least cursor's row is handed over; it goes on .. -/
theorem MI.next {segs : List (Option Addr × List (List Int))} {T pre : List (List Int)} {L : List CP} {y : CP} (h : MI segs T pre (y :: L)) (hm : ∀ z ∈ L, leR (rowP y) (rowP z)) {i : Nat} (hi : y.1.1.1.2 = (i : Int)) (hlt : i + 1 < y.2.length) (ra : Option Addr) (rc : Nat) (p : Int) :
    MI segs T (pre ++ [rowP y]) (((((y.1.1.1.1, ((i + 1 : Nat) : Int)), (ra, rowAt y.2 (i + 1), rc)), p), y.2) :: L) := by
  obtain ⟨i', h1, h2, h3, h4, h5⟩ := h.ok y List.mem_cons_self
  obtain rfl : i' = i := by omega
  have hr : restP y = rowP y :: y.2.drop (i' + 1) := by
    unfold restP
    rw [h1, Int.toNat_natCast, h4, List.drop_eq_getElem_cons h2]
    simp [rowAt, h2]
  have hlast : leR (rowP y) (rowAt y.2 (i' + 1)) := by
    rw [h4]
    refine (leR_iff _ _).2 (.inl ?_)
    have e1 : rowAt y.2 i' = y.2[i'] := by simp [rowAt, h2]
    have e2 : rowAt y.2 (i' + 1) = y.2[i' + 1] := by simp [rowAt, hlt]
    rw [e1, e2]
    exact List.pairwise_iff_getElem.1 h5 i' (i' + 1) h2 hlt (by omega)
  refine ⟨?_, ?_, ?_, ?_⟩
  · have e : restP ((((y.1.1.1.1, ((i' + 1 : Nat) : Int)), (ra, rowAt y.2 (i' + 1), rc)), p), y.2) = y.2.drop (i' + 1) := rfl
    have := h.perm
    rw [List.flatMap_cons, hr] at this
    rw [List.flatMap_cons, e]
    simpa using this
  · refine List.pairwise_append.2 ⟨h.asc, List.pairwise_singleton _ _, fun a ha b hb => ?_⟩
    obtain rfl := List.mem_singleton.1 hb
    exact h.le a ha y List.mem_cons_self
  · intro a ha z hz
    have hyz : leR (rowP y) (rowP z) := by
      rcases List.mem_cons.1 hz with rfl | hz
      · exact hlast
      · exact hm z hz
    rcases List.mem_append.1 ha with ha | ha
    · exact leR_trans (h.le a ha y List.mem_cons_self) hyz
    · obtain rfl := List.mem_singleton.1 ha; exact hyz
  · intro z hz
    rcases List.mem_cons.1 hz with rfl | hz
    · exact ⟨i' + 1, rfl, hlt, h3, rfl, h5⟩
    · exact h.ok z (List.mem_cons_of_mem _ hz)
/-- .. or is at its end. -/
theorem MI.last {segs : List (Option Addr × List (List Int))} {T pre : List (List Int)} {L : List CP} {y : CP} (h : MI segs T pre (y :: L)) (hm : ∀ z ∈ L, leR (rowP y) (rowP z)) {i : Nat} (hi : y.1.1.1.2 = (i : Int)) (hge : y.2.length ≤ i + 1) :
    MI segs T (pre ++ [rowP y]) L := by
  obtain ⟨i', h1, h2, h3, h4, h5⟩ := h.ok y List.mem_cons_self
  obtain rfl : i' = i := by omega
  have hr : restP y = [rowP y] := by
    unfold restP
    rw [h1, Int.toNat_natCast, h4, List.drop_eq_getElem_cons h2, List.drop_eq_nil_of_le hge]
    simp [rowAt, h2]
  refine ⟨?_, ?_, ?_, fun z hz => h.ok z (List.mem_cons_of_mem _ hz)⟩
  · have := h.perm
    rw [List.flatMap_cons, hr] at this
    simpa using this
  · refine List.pairwise_append.2 ⟨h.asc, List.pairwise_singleton _ _, fun a ha b hb => ?_⟩
    obtain rfl := List.mem_singleton.1 hb
    exact h.le a ha y List.mem_cons_self
  · intro a ha z hz
    rcases List.mem_append.1 ha with ha | ha
    · exact h.le a ha z (List.mem_cons_of_mem _ hz)
    · obtain rfl := List.mem_singleton.1 ha; exact hm z hz
/-- What a pop takes out of a list of cursors. -/
theorem pop_pairs {L : List CP} {x : Cu.CE} {bag : List Cu.CE} (h : (L.map Prod.fst).Perm (x :: bag)) : ∃ y L', L.Perm (y :: L') ∧ y.1 = x ∧ bag.Perm (L'.map Prod.fst) := by
  have hx : x ∈ L.map Prod.fst := h.symm.subset List.mem_cons_self
  obtain ⟨y, hy, e⟩ := List.mem_map.1 hx
  obtain ⟨s, t, rfl⟩ := List.append_of_mem hy
  refine ⟨y, s ++ t, List.perm_middle, e, ?_⟩
  have h1 : ((s ++ y :: t).map Prod.fst).Perm (x :: (s ++ t).map Prod.fst) := by rw [← e]; exact (List.perm_middle (a := y) (l₁ := s) (l₂ := t)).map Prod.fst
  exact ((List.perm_cons x).1 (h1.symm.trans h)).symm
end Go.Proofs.Ytepkmhcchmladaa
