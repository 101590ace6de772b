
/- Plain mathematics of relations: rows of numbers in lexicographic order, without duplicates. -/
namespace Go.Proofs.Ytepkmhcchmladaa
set_option linter.unusedSimpArgs false

/-- Two rows compared: below 0, 0, above 0. -/
def cmpR : List Int → List Int → Int
  | [], b => -(b.length : Int)
  | a :: as, [] => ((a :: as).length : Int)
  | x :: a, y :: b => if x < y then -1 else if y < x then 1 else cmpR a b

theorem cmpR_nil (b : List Int) : cmpR [] b = -(b.length : Int) := by unfold cmpR; rfl
theorem cmpR_nil2 (a : List Int) : cmpR a [] = (a.length : Int) := by cases a <;> simp [cmpR]
theorem cmpR_cons (x y : Int) (a b : List Int) : cmpR (x :: a) (y :: b) = if x < y then -1 else if y < x then 1 else cmpR a b := rfl
theorem cmpR_self (a : List Int) : cmpR a a = 0 := by induction a with
  | nil => simp [cmpR]
  | cons x a ih => simp [cmpR_cons, ih]
theorem cmpR_eq {a b : List Int} (h : cmpR a b = 0) : a = b := by
  induction a generalizing b with
  | nil => cases b <;> simp [cmpR] at h ⊢; omega
  | cons x a ih => cases b with
    | nil => simp [cmpR] at h; omega
    | cons y b =>
      rw [cmpR_cons] at h
      split at h
      · omega
      · split at h
        · omega
        · rw [ih h]; congr 1; omega
theorem cmpR_neg (a b : List Int) : cmpR a b < 0 ↔ 0 < cmpR b a := by
  induction a generalizing b with
  | nil => cases b <;> simp [cmpR] <;> omega
  | cons x a ih => cases b with
    | nil => simp [cmpR]
    | cons y b =>
      rw [cmpR_cons, cmpR_cons]
      rcases Int.lt_trichotomy x y with h | h | h
      · rw [if_pos h, if_neg (by omega), if_pos h]; omega
      · subst h; simp [ih b]
      · rw [if_neg (by omega), if_pos h, if_pos h]; omega
theorem cmpR_trans {a b c : List Int} (h : cmpR a b < 0) (h' : cmpR b c < 0) : cmpR a c < 0 := by
  induction a generalizing b c with
  | nil =>
    rw [cmpR_nil] at h ⊢
    cases c with
    | nil => rw [cmpR_nil2] at h'; omega
    | cons z c => simp
  | cons x a ih => cases b with
    | nil => simp [cmpR] at h; omega
    | cons y b => cases c with
      | nil => simp [cmpR] at h'; omega
      | cons z c =>
        rw [cmpR_cons] at h h' ⊢
        by_cases h1 : x < y
        · by_cases h2 : y < z
          · rw [if_pos (by omega)]; omega
          · rw [if_neg h2] at h'
            by_cases h3 : z < y
            · rw [if_pos h3] at h'; omega
            · rw [if_pos (by omega)]; omega
        · rw [if_neg h1] at h
          by_cases h4 : y < x
          · rw [if_pos h4] at h; omega
          · rw [if_neg h4] at h
            obtain rfl : x = y := by omega
            by_cases h2 : x < z
            · rw [if_pos h2]; omega
            · rw [if_neg h2] at h' ⊢
              by_cases h3 : z < x
              · rw [if_pos h3] at h'; omega
              · rw [if_neg h3] at h' ⊢; exact ih h h'
theorem cmpR_tri (a b : List Int) : cmpR a b < 0 ∨ a = b ∨ 0 < cmpR a b := by
  rcases Int.lt_trichotomy (cmpR a b) 0 with h | h | h
  · exact .inl h
  · exact .inr (.inl (cmpR_eq h))
  · exact .inr (.inr h)
theorem cmpR_bd (a b : List Int) (n : Nat) (ha : a.length ≤ n) (hb : b.length ≤ n) : -(n : Int) - 1 ≤ cmpR a b ∧ cmpR a b ≤ (n : Int) + 1 := by
  induction a generalizing b n with
  | nil => rw [cmpR_nil]; omega
  | cons x a ih => cases b with
    | nil => rw [cmpR_nil2]; omega
    | cons y b =>
      rw [cmpR_cons]
      split
      · omega
      · split
        · omega
        · have := ih b n (by simp at ha; omega) (by simp at hb; omega); exact this

/-- In order, none twice. -/
def SortedR (l : List (List Int)) : Prop := l.Pairwise (fun a b => cmpR a b < 0)

/-- How many rows come before r. -/
def before (l : List (List Int)) (r : List Int) : Nat := (l.takeWhile fun x => decide (cmpR x r < 0)).length
/-- A row put in at its place. -/
def ins (l : List (List Int)) (r : List Int) : List (List Int) :=
  if l[before l r]? = some r then l else l.take (before l r) ++ r :: l.drop (before l r)

theorem before_nil (r : List Int) : before [] r = 0 := rfl
theorem before_cons (x : List Int) (l : List (List Int)) (r : List Int) : before (x :: l) r = if cmpR x r < 0 then before l r + 1 else 0 := by
  unfold before; by_cases h : cmpR x r < 0 <;> simp [h]
theorem before_le (l : List (List Int)) (r : List Int) : before l r ≤ l.length := by
  induction l with
  | nil => simp [before_nil]
  | cons x l ih => rw [before_cons]; split <;> simp; omega
/-- The loop's step: the place is found by going on while rows come before. -/
theorem before_step {l : List (List Int)} {r : List Int} {i : Nat} (h : i < l.length) (hb : i ≤ before l r) : (cmpR (l[i]?.getD []) r < 0 ↔ i < before l r) := by
  induction l generalizing i with
  | nil => simp at h
  | cons x l ih =>
    rw [before_cons] at hb ⊢
    cases i with
    | zero => by_cases hx : cmpR x r < 0 <;> simp [hx]
    | succ i =>
      by_cases hx : cmpR x r < 0
      · rw [if_pos hx] at hb ⊢
        have := ih (i := i) (by simpa using h) (by omega)
        simpa using this
      · rw [if_neg hx] at hb; omega

theorem ins_cons_lt {x : List Int} {l : List (List Int)} {r : List Int} (h : cmpR x r < 0) : ins (x :: l) r = x :: ins l r := by
  unfold ins; rw [before_cons, if_pos h]
  simp only [List.getElem?_cons_succ, List.take_succ_cons, List.drop_succ_cons, List.cons_append]
  split <;> rfl
theorem ins_cons_eq {x : List Int} {l : List (List Int)} : ins (x :: l) x = x :: l := by
  have hb : before (x :: l) x = 0 := by rw [before_cons, cmpR_self]; rfl
  simp [ins, hb]
theorem ins_cons_gt {x : List Int} {l : List (List Int)} {r : List Int} (h : 0 < cmpR x r) : ins (x :: l) r = r :: x :: l := by
  have hne : x ≠ r := fun e => by rw [e, cmpR_self] at h; omega
  have hb : before (x :: l) r = 0 := by rw [before_cons, if_neg (by omega)]
  simp [ins, hb, hne]
theorem ins_nil (r : List Int) : ins [] r = [r] := by simp [ins, before_nil]
theorem mem_ins (l : List (List Int)) (r x : List Int) : x ∈ ins l r ↔ x = r ∨ x ∈ l := by
  induction l with
  | nil => simp [ins_nil]
  | cons y l ih =>
    rcases cmpR_tri y r with h | h | h
    · rw [ins_cons_lt h, List.mem_cons, ih, List.mem_cons]; constructor
      · rintro (h | h | h); exact .inr (.inl h); exact .inl h; exact .inr (.inr h)
      · rintro (h | h | h); exact .inr (.inl h); exact .inl h; exact .inr (.inr h)
    · subst h; rw [ins_cons_eq]; simp
    · rw [ins_cons_gt h]; simp
theorem sorted_ins {l : List (List Int)} (h : SortedR l) (r : List Int) : SortedR (ins l r) := by
  induction l with
  | nil => rw [ins_nil]; exact List.pairwise_singleton _ _
  | cons y l ih =>
    obtain ⟨h1, h2⟩ := List.pairwise_cons.1 h
    rcases cmpR_tri y r with hy | hy | hy
    · rw [ins_cons_lt hy]
      refine List.pairwise_cons.2 ⟨fun x hx => ?_, ih h2⟩
      rcases (mem_ins l r x).1 hx with rfl | hx
      · exact hy
      · exact h1 x hx
    · subst hy; rw [ins_cons_eq]; exact h
    · rw [ins_cons_gt hy]
      refine List.pairwise_cons.2 ⟨fun x hx => ?_, h⟩
      have hr : cmpR r y < 0 := (cmpR_neg r y).2 hy
      rcases List.mem_cons.1 hx with rfl | hx
      · exact hr
      · exact cmpR_trans hr (h1 x hx)
/-- Two lists in order with the same rows are one. -/
theorem sorted_ext {l r : List (List Int)} (hl : SortedR l) (hr : SortedR r) (h : ∀ x, x ∈ l ↔ x ∈ r) : l = r := by
  induction l generalizing r with
  | nil => cases r with
    | nil => rfl
    | cons y r => have := (h y).2 (by simp); simp at this
  | cons x l ih => cases r with
    | nil => have := (h x).1 (by simp); simp at this
    | cons y r =>
      obtain ⟨hl1, hl2⟩ := List.pairwise_cons.1 hl
      obtain ⟨hr1, hr2⟩ := List.pairwise_cons.1 hr
      have irr : ∀ z : List Int, ¬ cmpR z z < 0 := fun z => by rw [cmpR_self]; omega
      have hxy : x = y := by
        rcases List.mem_cons.1 ((h x).1 (by simp)) with e | e
        · exact e
        · rcases List.mem_cons.1 ((h y).2 (by simp)) with e' | e'
          · exact e'.symm
          · exact absurd (cmpR_trans (hr1 x e) (hl1 y e')) (irr y)
      subst hxy
      congr 1
      apply ih hl2 hr2
      intro z
      constructor
      · intro hz
        rcases List.mem_cons.1 ((h z).1 (by simp [hz])) with e | e
        · subst e; exact absurd (hl1 _ hz) (irr _)
        · exact e
      · intro hz
        rcases List.mem_cons.1 ((h z).2 (by simp [hz])) with e | e
        · subst e; exact absurd (hr1 _ hz) (irr _)
        · exact e

/-- The relation of a width: rows put in one by one. -/
def relOf (width : Int) (rows : List (List Int)) : List (List Int) := rows.foldl (fun out r => if (r.length : Int) = width then ins out r else out) []
theorem rel_fold (width : Int) (rows acc : List (List Int)) (h : SortedR acc) : SortedR (rows.foldl (fun out r => if (r.length : Int) = width then ins out r else out) acc) ∧
    ∀ x, x ∈ rows.foldl (fun out r => if (r.length : Int) = width then ins out r else out) acc ↔ x ∈ acc ∨ (x ∈ rows ∧ (x.length : Int) = width) := by
  induction rows generalizing acc with
  | nil => simp [h]
  | cons r rows ih =>
    rw [List.foldl_cons]
    by_cases hr : (r.length : Int) = width
    · rw [if_pos hr]
      obtain ⟨h1, h2⟩ := ih (ins acc r) (sorted_ins h r)
      refine ⟨h1, fun x => ?_⟩
      rw [h2, mem_ins, List.mem_cons]
      constructor
      · rintro ((rfl | h) | ⟨h, h'⟩)
        · exact .inr ⟨.inl rfl, hr⟩
        · exact .inl h
        · exact .inr ⟨.inr h, h'⟩
      · rintro (h | ⟨rfl | h, h'⟩)
        · exact .inl (.inr h)
        · exact .inl (.inl rfl)
        · exact .inr ⟨h, h'⟩
    · rw [if_neg hr]
      obtain ⟨h1, h2⟩ := ih acc h
      refine ⟨h1, fun x => ?_⟩
      rw [h2, List.mem_cons]
      constructor
      · rintro (h | ⟨h, h'⟩)
        · exact .inl h
        · exact .inr ⟨.inr h, h'⟩
      · rintro (h | ⟨rfl | h, h'⟩)
        · exact .inl h
        · exact absurd h' hr
        · exact .inr ⟨h, h'⟩
theorem rel_sorted (width : Int) (rows : List (List Int)) : SortedR (relOf width rows) := (rel_fold width rows [] List.Pairwise.nil).1
theorem mem_rel (width : Int) (rows : List (List Int)) (x : List Int) : x ∈ relOf width rows ↔ x ∈ rows ∧ (x.length : Int) = width := by
  have := (rel_fold width rows [] List.Pairwise.nil).2 x; simpa [relOf] using this
theorem rel_take {width : Int} {rows : List (List Int)} {k : Nat} (h : k < rows.length) :
    relOf width (rows.take (k + 1)) = if ((rows[k]?.getD []).length : Int) = width then ins (relOf width (rows.take k)) (rows[k]?.getD []) else relOf width (rows.take k) := by
  unfold relOf
  rw [List.take_succ_eq_append_getElem h, List.foldl_append, List.getElem?_eq_getElem h]; rfl
/-- Any list in order with just those rows is the relation. -/
theorem rel_unique {width : Int} {rows l : List (List Int)} (hl : SortedR l) (h : ∀ x, x ∈ l ↔ x ∈ rows ∧ (x.length : Int) = width) : l = relOf width rows :=
  sorted_ext hl (rel_sorted _ _) (fun x => by rw [h, mem_rel])
theorem ins_len (l : List (List Int)) (r : List Int) : (ins l r).length ≤ l.length + 1 := by
  unfold ins; split
  · omega
  · simp; have := before_le l r; omega
theorem rel_len (width : Int) (rows : List (List Int)) : (relOf width rows).length ≤ rows.length := by
  have key : ∀ (rows acc : List (List Int)), (rows.foldl (fun out r => if (r.length : Int) = width then ins out r else out) acc).length ≤ acc.length + rows.length := by
    intro rows
    induction rows with
    | nil => intro acc; simp
    | cons r rows ih =>
      intro acc
      rw [List.foldl_cons, List.length_cons]
      split
      · have := ih (ins acc r); have := ins_len acc r; omega
      · have := ih acc; omega
  have := key rows []; simpa [relOf] using this

/-- Sets of rows: union, intersection, difference. -/
def orR (a b : List (List Int)) : List (List Int) := b.foldl ins a
def andR (a b : List (List Int)) : List (List Int) := a.filter fun r => decide (r ∈ b)
def minusR (a b : List (List Int)) : List (List Int) := a.filter fun r => decide (r ∉ b)
theorem or_fold (b a : List (List Int)) (ha : SortedR a) : SortedR (b.foldl ins a) ∧ ∀ x, x ∈ b.foldl ins a ↔ x ∈ a ∨ x ∈ b := by
  induction b generalizing a with
  | nil => simp [ha]
  | cons y b ih =>
    rw [List.foldl_cons]
    obtain ⟨h1, h2⟩ := ih (ins a y) (sorted_ins ha y)
    refine ⟨h1, fun x => ?_⟩
    rw [h2, mem_ins, List.mem_cons]
    constructor
    · rintro ((h | h) | h); exact .inr (.inl h); exact .inl h; exact .inr (.inr h)
    · rintro (h | h | h); exact .inl (.inr h); exact .inl (.inl h); exact .inr h
theorem or_sorted {a : List (List Int)} (ha : SortedR a) (b : List (List Int)) : SortedR (orR a b) := (or_fold b a ha).1
theorem mem_or {a : List (List Int)} (ha : SortedR a) (b : List (List Int)) (x : List Int) : x ∈ orR a b ↔ x ∈ a ∨ x ∈ b := (or_fold b a ha).2 x
theorem and_sorted {a : List (List Int)} (ha : SortedR a) (b : List (List Int)) : SortedR (andR a b) := ha.filter _
theorem minus_sorted {a : List (List Int)} (ha : SortedR a) (b : List (List Int)) : SortedR (minusR a b) := ha.filter _
theorem mem_and (a b : List (List Int)) (x : List Int) : x ∈ andR a b ↔ x ∈ a ∧ x ∈ b := by simp [andR]
theorem mem_minus (a b : List (List Int)) (x : List Int) : x ∈ minusR a b ↔ x ∈ a ∧ x ∉ b := by simp [minusR]
end Go.Proofs.Ytepkmhcchmladaa
