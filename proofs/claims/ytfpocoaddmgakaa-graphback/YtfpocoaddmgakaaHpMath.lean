/- Plain mathematics of a binary heap in a list: moving an element up or down, the least one on top, what is popped. -/
namespace Go.Proofs.Ytfpocoaddmgakaa
set_option linter.unusedSimpArgs false
section
variable {α : Type}
/-- A strict weak order. -/
structure Ord (lt : α → α → Bool) : Prop where
  irrefl : ∀ x, lt x x = false
  trans : ∀ x y z, lt x y = true → lt y z = true → lt x z = true
  ntrans : ∀ x y z, lt x y = false → lt y z = false → lt x z = false
theorem Ord.asymm {lt : α → α → Bool} (h : Ord lt) {x y : α} (e : lt x y = true) : lt y x = false := by
  cases h' : lt y x with
  | false => rfl
  | true => have := h.trans _ _ _ e h'; rw [h.irrefl] at this; cases this

theorem perm_set {es : List α} {j : Nat} (x y : α) (h : es[j]? = some y) : (x :: es).Perm (y :: es.set j x) := by
  induction es generalizing j with
  | nil => simp at h
  | cons z es ih =>
    cases j with
    | zero => simp at h; subst h; exact List.Perm.swap _ _ _
    | succ j =>
      simp at h
      exact (List.Perm.swap z x es).trans (((ih h).cons z).trans (List.Perm.swap y z _))
end
section
variable {α : Type} [Inhabited α]

def atE (es : List α) (i : Nat) : α := es[i]?.getD default
theorem atE_eq {es : List α} {i : Nat} (h : i < es.length) : atE es i = es[i] := by simp [atE, h]
theorem atE_mem {es : List α} {i : Nat} (h : i < es.length) : atE es i ∈ es := by rw [atE_eq h]; exact List.getElem_mem h
theorem atE_append {es : List α} {x : α} {i : Nat} (h : i < es.length) : atE (es ++ [x]) i = atE es i := by simp [atE, List.getElem?_append_left h]
theorem atE_last (es : List α) (x : α) : atE (es ++ [x]) es.length = x := by simp [atE]
theorem mem_atE {es : List α} {x : α} (h : x ∈ es) : ∃ i, i < es.length ∧ atE es i = x := by
  obtain ⟨i, hi, e⟩ := List.getElem_of_mem h
  exact ⟨i, hi, by rw [atE_eq hi, e]⟩

def swpL (es : List α) (i j : Nat) : List α := (es.set i (atE es j)).set j (atE es i)
theorem swpL_len (es : List α) (i j : Nat) : (swpL es i j).length = es.length := by simp [swpL]
theorem atE_swp {es : List α} {i j : Nat} (hi : i < es.length) (hj : j < es.length) (k : Nat) : atE (swpL es i j) k = if k = j then atE es i else if k = i then atE es j else atE es k := by
  unfold atE swpL
  by_cases h1 : k = j
  · subst h1; simp [hj, atE]
  · by_cases h2 : k = i
    · subst h2; rw [if_neg h1, if_pos rfl, List.getElem?_set_ne (fun e => h1 e.symm)]; simp [hi, atE]
    · rw [if_neg h1, if_neg h2, List.getElem?_set_ne (fun e => h1 e.symm), List.getElem?_set_ne (fun e => h2 e.symm)]
theorem perm_swp {es : List α} {i j : Nat} (hi : i < es.length) (hj : j < es.length) : (swpL es i j).Perm es := by
  have e1 : es[i]? = some (atE es i) := by simp [atE, hi]
  have h1 := perm_set (atE es j) (atE es i) e1
  have e2 : (es.set i (atE es j))[j]? = some (atE es j) := by
    by_cases h : i = j
    · subst h; simp [hi]
    · rw [List.getElem?_set_ne h]; simp [atE, hj]
  have h2 := perm_set (atE es i) (atE es j) e2
  exact ((h1.trans h2).cons_inv).symm

def IsHeap (lt : α → α → Bool) (es : List α) : Prop := ∀ j, 0 < j → j < es.length → lt (atE es j) (atE es ((j - 1) / 2)) = false
def UpOK (lt : α → α → Bool) (es : List α) (i : Nat) : Prop :=
  (∀ j, 0 < j → j < es.length → j ≠ i → lt (atE es j) (atE es ((j - 1) / 2)) = false) ∧ ∀ j, 0 < j → j < es.length → (j - 1) / 2 = i → 0 < i → lt (atE es j) (atE es ((i - 1) / 2)) = false
def DownOK (lt : α → α → Bool) (es : List α) (i : Nat) : Prop :=
  (∀ j, 0 < j → j < es.length → (j - 1) / 2 ≠ i → lt (atE es j) (atE es ((j - 1) / 2)) = false) ∧ ∀ j, 0 < j → j < es.length → (j - 1) / 2 = i → 0 < i → lt (atE es j) (atE es ((i - 1) / 2)) = false

variable {lt : α → α → Bool}
theorem heap_nil : IsHeap lt ([] : List α) := fun _ _ h => absurd h (Nat.not_lt_zero _)
theorem up_start {es : List α} (h : IsHeap lt es) (x : α) : UpOK lt (es ++ [x]) es.length := by
  refine ⟨fun j h0 hj hne => ?_, fun j h0 hj hp h1 => ?_⟩
  · simp at hj
    rw [atE_append (by omega), atE_append (by omega)]
    exact h j h0 (by omega)
  · simp at hj; omega
theorem up_stop0 {es : List α} (h : UpOK lt es 0) : IsHeap lt es := fun j h0 hj => h.1 j h0 hj (by omega)
theorem up_stop {es : List α} {i : Nat} (h : UpOK lt es i) (hn : lt (atE es i) (atE es ((i - 1) / 2)) = false) : IsHeap lt es := by
  intro j h0 hj
  by_cases e : j = i
  · subst e; exact hn
  · exact h.1 j h0 hj e
theorem up_step (O : Ord lt) {es : List α} {i : Nat} (h : UpOK lt es i) (h0 : 0 < i) (hi : i < es.length) (hl : lt (atE es i) (atE es ((i - 1) / 2)) = true) : UpOK lt (swpL es i ((i - 1) / 2)) ((i - 1) / 2) := by
  have hp : (i - 1) / 2 < es.length := by omega
  refine ⟨fun j j0 hj hne => ?_, fun j j0 hj hpj p0 => ?_⟩
  · rw [swpL_len] at hj
    rw [atE_swp hi hp, atE_swp hi hp, if_neg hne]
    by_cases e : j = i
    · subst e; rw [if_pos rfl, if_pos rfl]; exact O.asymm hl
    · rw [if_neg e]
      by_cases e1 : (j - 1) / 2 = i
      · rw [if_neg (by omega), if_pos e1]; exact h.2 j j0 hj e1 h0
      · by_cases e2 : (j - 1) / 2 = (i - 1) / 2
        · rw [if_pos e2]
          cases hc : lt (atE es j) (atE es i) with
          | false => rfl
          | true =>
            have := O.trans _ _ _ hc hl
            have h' := h.1 j j0 hj e
            rw [e2] at h'
            rw [h'] at this; cases this
        · rw [if_neg e2, if_neg e1]; exact h.1 j j0 hj e
  · rw [swpL_len] at hj
    rw [atE_swp hi hp, atE_swp hi hp, if_neg (show ¬ j = (i - 1) / 2 by omega), if_neg (show ¬ ((i - 1) / 2 - 1) / 2 = (i - 1) / 2 by omega), if_neg (show ¬ ((i - 1) / 2 - 1) / 2 = i by omega)]
    have hpp := h.1 ((i - 1) / 2) p0 hp (by omega)
    by_cases e : j = i
    · rw [if_pos e]; exact hpp
    · rw [if_neg e]
      have := h.1 j j0 hj e
      rw [hpj] at this
      exact O.ntrans _ _ _ this hpp
theorem down_stop {es : List α} {i : Nat} (h : DownOK lt es i) (hn : ∀ j, 0 < j → j < es.length → (j - 1) / 2 = i → lt (atE es j) (atE es i) = false) : IsHeap lt es := by
  intro j h0 hj
  by_cases e : (j - 1) / 2 = i
  · rw [e]; exact hn j h0 hj e
  · exact h.1 j h0 hj e
theorem down_step (O : Ord lt) {es : List α} {i c : Nat} (h : DownOK lt es i) (c0 : 0 < c) (hc : c < es.length) (hpc : (c - 1) / 2 = i) (hl : lt (atE es c) (atE es i) = true)
    (hleast : ∀ j, 0 < j → j < es.length → (j - 1) / 2 = i → lt (atE es j) (atE es c) = false) : DownOK lt (swpL es i c) c := by
  have hi : i < es.length := by omega
  refine ⟨fun j j0 hj hne => ?_, fun j j0 hj hpj p0 => ?_⟩
  · rw [swpL_len] at hj
    rw [atE_swp hi hc, atE_swp hi hc, if_neg hne]
    by_cases e1 : j = c
    · subst e1; rw [if_pos rfl, if_pos hpc]; exact O.asymm hl
    · rw [if_neg e1]
      by_cases e2 : (j - 1) / 2 = i
      · rw [if_neg (by omega), if_pos e2]; exact hleast j j0 hj e2
      · rw [if_neg e2]
        by_cases e3 : j = i
        · subst e3; rw [if_pos rfl]; exact h.2 c c0 hc hpc j0
        · rw [if_neg e3]; exact h.1 j j0 hj e2
  · rw [swpL_len] at hj
    rw [atE_swp hi hc, atE_swp hi hc, if_neg (show ¬ j = c by omega), if_neg (show ¬ j = i by omega), if_neg (show ¬ (c - 1) / 2 = c by omega), if_pos hpc]
    have := h.1 j j0 hj (by omega)
    rw [hpj] at this; exact this
theorem heap_min (O : Ord lt) {es : List α} (h : IsHeap lt es) : ∀ j, j < es.length → lt (atE es j) (atE es 0) = false := by
  intro j
  induction j using Nat.strongRecOn with
  | _ j ih =>
    intro hj
    by_cases e : j = 0
    · subst e; exact O.irrefl _
    · exact O.ntrans _ _ _ (h j (by omega) hj) (ih ((j - 1) / 2) (by omega) (by omega))

/-- The list behind a pop: the last one on top, one fewer. -/
def popL (es : List α) : List α := (es.set 0 (atE es (es.length - 1))).take (es.length - 1)
theorem popL_len (es : List α) : (popL es).length = es.length - 1 := by simp [popL]
theorem atE_pop {es : List α} {j : Nat} (h0 : 0 < j) (h : j < es.length - 1) : atE (popL es) j = atE es j := by
  unfold atE popL
  rw [List.getElem?_take_of_lt h, List.getElem?_set_ne (by omega)]
theorem down_start {es : List α} (h : IsHeap lt es) : DownOK lt (popL es) 0 := by
  refine ⟨fun j j0 hj hne => ?_, fun _ _ _ _ h => absurd h (Nat.lt_irrefl _)⟩
  rw [popL_len] at hj
  rw [atE_pop j0 hj, atE_pop (by omega) (by omega)]
  exact h j j0 (by omega)
theorem perm_pop {es : List α} (h : 0 < es.length) : es.Perm (atE es 0 :: popL es) := by
  cases es with
  | nil => simp at h
  | cons x es =>
    rcases List.eq_nil_or_concat es with rfl | ⟨l, y, rfl⟩
    · simp [popL, atE]
    · have : popL (x :: (l ++ [y])) = y :: l := by simp [popL, atE]
      simp only [List.concat_eq_append] at *
      rw [this]
      have e : atE (x :: (l ++ [y])) 0 = x := by simp [atE]
      rw [e]
      exact List.perm_append_comm.cons x
end
end Go.Proofs.Ytfpocoaddmgakaa
