/- Plain mathematics of columns: selections, gathering, intersections. -/
namespace Go.Proofs.YtplckcnmpnnkgaaDoor
set_option linter.unusedSimpArgs false

/-- Does the comparison of number o hold of a and b? -/
def holdsB (o a b : Int) : Bool :=
  if o = 0 then decide (a = b) else if o = 1 then !decide (a = b) else if o = 2 then decide (a < b) else if o = 3 then decide (a ≤ b) else if o = 4 then decide (b < a) else if o = 5 then decide (b ≤ a) else false

theorem holdsB0 (a b : Int) : holdsB 0 a b = decide (a = b) := rfl
theorem holdsB1 (a b : Int) : holdsB 1 a b = !decide (a = b) := rfl
theorem holdsB2 (a b : Int) : holdsB 2 a b = decide (a < b) := rfl
theorem holdsB3 (a b : Int) : holdsB 3 a b = decide (a ≤ b) := rfl
theorem holdsB4 (a b : Int) : holdsB 4 a b = decide (b < a) := rfl
theorem holdsB5 (a b : Int) : holdsB 5 a b = decide (b ≤ a) := rfl
theorem holdsB_no {o a b : Int} (h : o < 0 ∨ 5 < o) : holdsB o a b = false := by unfold holdsB; grind

/-- The places below k at which p is true, rising. -/
def selTo (p : Nat → Bool) (k : Nat) : List Int := ((List.range k).filter p).map (fun i : Nat => (i : Int))

theorem selTo_zero (p : Nat → Bool) : selTo p 0 = [] := rfl
theorem selTo_yes {p : Nat → Bool} {k : Nat} (h : p k = true) : selTo p (k + 1) = selTo p k ++ [(k : Int)] := by
  simp [selTo, List.range_succ, h]
theorem selTo_no {p : Nat → Bool} {k : Nat} (h : p k = false) : selTo p (k + 1) = selTo p k := by
  simp [selTo, List.range_succ, h]
theorem selTo_le (p : Nat → Bool) (k : Nat) : (selTo p k).length ≤ k := by
  have := List.length_filter_le p (List.range k); simpa [selTo] using this
theorem selTo_mem {p : Nat → Bool} {k : Nat} {z : Int} : z ∈ selTo p k ↔ ∃ i, i < k ∧ p i = true ∧ z = i := by
  simp only [selTo, List.mem_map, List.mem_filter, List.mem_range]; constructor
  · rintro ⟨i, ⟨h1, h2⟩, rfl⟩; exact ⟨i, h1, h2, rfl⟩
  · rintro ⟨i, h1, h2, rfl⟩; exact ⟨i, ⟨h1, h2⟩, rfl⟩
theorem selTo_ext {p q : Nat → Bool} {k : Nat} (h : ∀ i, i < k → p i = q i) : selTo p k = selTo q k := by
  unfold selTo; congr 1; apply List.filter_congr; intro i hi; exact h i (by simpa using hi)
theorem selTo_pre (p : Nat → Bool) {m n : Nat} (h : m ≤ n) : ∃ r, selTo p n = selTo p m ++ r := by
  induction n with
  | zero => obtain rfl : m = 0 := by omega
            exact ⟨[], by simp⟩
  | succ n ih =>
    by_cases hm : m = n + 1
    · subst hm; exact ⟨[], by simp⟩
    · obtain ⟨r, hr⟩ := ih (by omega)
      by_cases hp : p n = true
      · exact ⟨r ++ [(n : Int)], by rw [selTo_yes hp, hr, List.append_assoc]⟩
      · exact ⟨r, by rw [selTo_no (by simpa using hp), hr]⟩
/-- The element at the number of those before it is the place itself. -/
theorem selTo_at {p : Nat → Bool} {i n : Nat} (h : i < n) (hp : p i = true) : (selTo p i).length < (selTo p n).length ∧ (selTo p n)[(selTo p i).length]?.getD 0 = (i : Int) := by
  obtain ⟨r, hr⟩ := selTo_pre p (show i + 1 ≤ n by omega)
  rw [hr, selTo_yes hp]
  simp
theorem selTo_sorted (p : Nat → Bool) (k : Nat) : (selTo p k).Pairwise (· < ·) := by
  unfold selTo
  rw [List.pairwise_map]
  exact (List.pairwise_lt_range.filter _).imp (fun h => by omega)

def whereL (o : Int) (zs : List Int) (x : Int) : List Int := selTo (fun i => holdsB o (zs[i]?.getD 0) x) zs.length
def bothL (o : Int) (as bs : List Int) : List Int := selTo (fun i => holdsB o (as[i]?.getD 0) (bs[i]?.getD 0)) (min as.length bs.length)

/-- The elements at the places sel; places out of range are skipped. -/
def gath (zs sel : List Int) : List Int := sel.filterMap fun i : Int => if 0 ≤ i ∧ i < zs.length then some (zs[i.toNat]?.getD 0) else none
theorem gath_yes {zs sel : List Int} {k : Nat} (h : k < sel.length) (h0 : 0 ≤ sel[k]?.getD 0) (h1 : sel[k]?.getD 0 < zs.length) :
    gath zs (sel.take (k + 1)) = gath zs (sel.take k) ++ [zs[(sel[k]?.getD 0).toNat]?.getD 0] := by
  rw [List.take_succ_eq_append_getElem h]
  rw [List.getElem?_eq_getElem h] at *
  simp only [Option.getD_some] at *
  simp only [gath, List.filterMap_append, List.filterMap_cons, h0, h1]; simp
theorem gath_no {zs sel : List Int} {k : Nat} (h : k < sel.length) (h1 : ¬ (0 ≤ sel[k]?.getD 0 ∧ sel[k]?.getD 0 < zs.length)) :
    gath zs (sel.take (k + 1)) = gath zs (sel.take k) := by
  rw [List.take_succ_eq_append_getElem h]
  rw [List.getElem?_eq_getElem h] at *
  simp only [Option.getD_some] at *
  simp only [gath, List.filterMap_append, List.filterMap_cons, h1]; simp
theorem gath_le (zs sel : List Int) : (gath zs sel).length ≤ sel.length := List.length_filterMap_le _ _

/-- What is in both of two lists, by the two pointers. -/
def andL : List Int → List Int → List Int
  | [], _ => []
  | _ :: _, [] => []
  | x :: xs, y :: ys => if x < y then andL xs (y :: ys) else if y < x then andL (x :: xs) ys else x :: andL xs ys
termination_by xs ys => xs.length + ys.length
theorem andL_nil (bs : List Int) : andL [] bs = [] := by unfold andL; rfl
theorem andL_nil2 (as : List Int) : andL as [] = [] := by cases as <;> (unfold andL; rfl)
theorem andL_le (as bs : List Int) : (andL as bs).length ≤ as.length := by
  fun_induction andL as bs <;> simp_all <;> omega
theorem andL_filter {as bs : List Int} (ha : as.Pairwise (· < ·)) (hb : bs.Pairwise (· < ·)) : andL as bs = as.filter (fun z => decide (z ∈ bs)) := by
  fun_induction andL as bs with
  | case1 => simp
  | case2 => simp
  | case3 x xs y ys h ih =>
    rw [ih ha.tail hb, List.filter_cons_of_neg]
    simp only [decide_eq_true_eq]
    intro hm
    rcases List.mem_cons.1 hm with rfl | hm
    · omega
    · have := (List.pairwise_cons.1 hb).1 x hm; omega
  | case4 x xs y ys h h' ih =>
    rw [ih ha hb.tail]
    apply List.filter_congr
    intro z hz
    have hy : z ≠ y := by
      rcases List.mem_cons.1 hz with rfl | hm
      · omega
      · have := (List.pairwise_cons.1 ha).1 z hm; omega
    simp [hy]
  | case5 x xs y ys h h' ih =>
    obtain rfl : x = y := by omega
    rw [ih ha.tail hb.tail, List.filter_cons_of_pos (by simp)]
    congr 1
    apply List.filter_congr
    intro z hz
    have := (List.pairwise_cons.1 ha).1 z hz
    have hy : z ≠ x := by omega
    simp [hy]
theorem and_sel (p q : Nat → Bool) (n : Nat) : andL (selTo p n) (selTo q n) = selTo (fun i => p i && q i) n := by
  rw [andL_filter (selTo_sorted _ _) (selTo_sorted _ _)]
  unfold selTo
  rw [List.filter_map, List.filter_filter]
  congr 1
  apply List.filter_congr
  intro i hi
  simp only [Function.comp_apply, List.mem_map, List.mem_filter, List.mem_range]
  have hi' : i < n := by simpa using hi
  cases hp : p i
  · simp
  · cases hq : q i
    · simp; intro x hx hqx e; obtain rfl : x = i := by omega
      simp [hq] at hqx
    · simp; exact ⟨i, ⟨hi', hq⟩, rfl⟩

/-- The step of And's loop. -/
theorem and_lt {as bs : List Int} {i j : Nat} (hi : i < as.length) (hj : j < bs.length) (h : as[i]?.getD 0 < bs[j]?.getD 0) : andL (as.drop i) (bs.drop j) = andL (as.drop (i + 1)) (bs.drop j) := by
  rw [List.drop_eq_getElem_cons hi, List.drop_eq_getElem_cons hj]
  rw [List.getElem?_eq_getElem hi, List.getElem?_eq_getElem hj] at h
  rw [andL]; simp only [Option.getD_some] at h; rw [if_pos h]
theorem and_gt {as bs : List Int} {i j : Nat} (hi : i < as.length) (hj : j < bs.length) (h : bs[j]?.getD 0 < as[i]?.getD 0) : andL (as.drop i) (bs.drop j) = andL (as.drop i) (bs.drop (j + 1)) := by
  rw [List.drop_eq_getElem_cons hi, List.drop_eq_getElem_cons hj]
  rw [List.getElem?_eq_getElem hi, List.getElem?_eq_getElem hj] at h
  rw [andL]; simp only [Option.getD_some] at h; rw [if_neg (by omega), if_pos h]
theorem and_eq {as bs : List Int} {i j : Nat} (hi : i < as.length) (hj : j < bs.length) (h : bs[j]?.getD 0 = as[i]?.getD 0) : andL (as.drop i) (bs.drop j) = (as[i]?.getD 0) :: andL (as.drop (i + 1)) (bs.drop (j + 1)) := by
  rw [List.drop_eq_getElem_cons hi, List.drop_eq_getElem_cons hj]
  rw [List.getElem?_eq_getElem hi, List.getElem?_eq_getElem hj] at h
  rw [andL]; simp only [Option.getD_some, List.getElem?_eq_getElem hi] at *; rw [if_neg (by omega), if_neg (by omega)]
theorem and_end {as bs : List Int} {i j : Nat} (h : as.length ≤ i ∨ bs.length ≤ j) : andL (as.drop i) (bs.drop j) = [] := by
  rcases h with h | h
  · rw [List.drop_of_length_le h, andL_nil]
  · rw [List.drop_of_length_le h, andL_nil2]

/-- The columns' counts. -/
theorem cnt_parts (zs : List Int) (x : Int) (k : Nat) : (selTo (fun i => holdsB 0 (zs[i]?.getD 0) x) k).length + (selTo (fun i => holdsB 2 (zs[i]?.getD 0) x) k).length + (selTo (fun i => holdsB 4 (zs[i]?.getD 0) x) k).length = k ∧
    (selTo (fun i => holdsB 1 (zs[i]?.getD 0) x) k).length = (selTo (fun i => holdsB 2 (zs[i]?.getD 0) x) k).length + (selTo (fun i => holdsB 4 (zs[i]?.getD 0) x) k).length ∧
    (selTo (fun i => holdsB 3 (zs[i]?.getD 0) x) k).length = (selTo (fun i => holdsB 0 (zs[i]?.getD 0) x) k).length + (selTo (fun i => holdsB 2 (zs[i]?.getD 0) x) k).length ∧
    (selTo (fun i => holdsB 5 (zs[i]?.getD 0) x) k).length = (selTo (fun i => holdsB 0 (zs[i]?.getD 0) x) k).length + (selTo (fun i => holdsB 4 (zs[i]?.getD 0) x) k).length := by
  induction k with
  | zero => simp [selTo_zero]
  | succ k ih =>
    have step : ∀ o, (selTo (fun i => holdsB o (zs[i]?.getD 0) x) (k + 1)).length = (selTo (fun i => holdsB o (zs[i]?.getD 0) x) k).length + if holdsB o (zs[k]?.getD 0) x = true then 1 else 0 := by
      intro o
      by_cases h : holdsB o (zs[k]?.getD 0) x = true
      · rw [selTo_yes h, if_pos h, List.length_append]; rfl
      · rw [selTo_no (by simpa using h), if_neg h]; rfl
    have s0 := step 0
    have s1 := step 1
    have s2 := step 2
    have s3 := step 3
    have s4 := step 4
    have s5 := step 5
    rw [holdsB0] at s0; rw [holdsB1] at s1; rw [holdsB2] at s2; rw [holdsB3] at s3; rw [holdsB4] at s4; rw [holdsB5] at s5
    clear step
    rw [s0, s1, s2, s3, s4, s5]
    clear s0 s1 s2 s3 s4 s5
    generalize zs[k]?.getD 0 = z
    simp only [decide_eq_true_eq, Bool.not_eq_true', decide_eq_false_iff_not]
    rcases Int.lt_trichotomy z x with h | h | h
    · rw [if_neg (by omega : ¬ z = x), if_pos h, if_neg (by omega : ¬ x < z), if_pos (by omega : ¬ z = x), if_pos (by omega : z ≤ x), if_neg (by omega : ¬ x ≤ z)]; omega
    · rw [if_pos h, if_neg (by omega : ¬ z < x), if_neg (by omega : ¬ x < z), if_neg (by omega : ¬ ¬ z = x), if_pos (by omega : z ≤ x), if_pos (by omega : x ≤ z)]; omega
    · rw [if_neg (by omega : ¬ z = x), if_neg (by omega : ¬ z < x), if_pos h, if_pos (by omega : ¬ z = x), if_neg (by omega : ¬ z ≤ x), if_pos (by omega : x ≤ z)]; omega
theorem and35 (zs : List Int) (x : Int) : andL (whereL 3 zs x) (whereL 5 zs x) = whereL 0 zs x := by
  unfold whereL; rw [and_sel]; apply selTo_ext; intro i _
  rw [holdsB3, holdsB5, holdsB0]; generalize zs[i]?.getD 0 = z
  grind
theorem and25 (zs : List Int) (x : Int) : andL (whereL 2 zs x) (whereL 5 zs x) = [] := by
  unfold whereL; rw [and_sel]
  apply List.eq_nil_iff_forall_not_mem.2
  intro z hz
  obtain ⟨i, _, h, _⟩ := selTo_mem.1 hz
  rw [holdsB2, holdsB5] at h
  grind

/-- The places that are in range. -/
def there (n : Nat) (sel : List Int) : List Int := sel.filter fun i : Int => decide (0 ≤ i ∧ i < n)
theorem there_yes {n : Nat} {sel : List Int} {k : Nat} (h : k < sel.length) (h1 : 0 ≤ sel[k]?.getD 0 ∧ sel[k]?.getD 0 < n) : there n (sel.take (k + 1)) = there n (sel.take k) ++ [sel[k]?.getD 0] := by
  rw [List.take_succ_eq_append_getElem h]
  rw [List.getElem?_eq_getElem h] at *
  simp only [Option.getD_some] at *
  simp only [there, List.filter_append, List.filter_cons, h1]; simp
theorem there_no {n : Nat} {sel : List Int} {k : Nat} (h : k < sel.length) (h1 : ¬ (0 ≤ sel[k]?.getD 0 ∧ sel[k]?.getD 0 < n)) : there n (sel.take (k + 1)) = there n (sel.take k) := by
  rw [List.take_succ_eq_append_getElem h]
  rw [List.getElem?_eq_getElem h] at *
  simp only [Option.getD_some] at *
  simp only [there, List.filter_append, List.filter_cons, h1]; simp
theorem there_le (n : Nat) (sel : List Int) : (there n sel).length ≤ sel.length := List.length_filter_le _ _
theorem gath_there (zs sel : List Int) : gath zs sel = (there zs.length sel).map fun i : Int => zs[i.toNat]?.getD 0 := by
  induction sel with
  | nil => rfl
  | cons i sel ih =>
    unfold gath there at *
    by_cases h : 0 ≤ i ∧ i < zs.length
    · simp [List.filterMap_cons, h, ih]
    · simp [List.filterMap_cons, h, ih]
theorem gath_chain (zs sel more : List Int) : gath (gath zs sel) more = gath zs (gath (there zs.length sel) more) := by
  have hl : (gath zs sel).length = (there zs.length sel).length := by rw [gath_there, List.length_map]
  induction more with
  | nil => rfl
  | cons k more ih =>
    have e1 : ∀ ys : List Int, gath ys (k :: more) = (if 0 ≤ k ∧ k < ys.length then [ys[k.toNat]?.getD 0] else []) ++ gath ys more := by
      intro ys; unfold gath; by_cases h : 0 ≤ k ∧ k < ys.length <;> simp [List.filterMap_cons, h]
    have e2 : ∀ l r : List Int, gath zs (l ++ r) = gath zs l ++ gath zs r := by
      intro l r; unfold gath; simp
    rw [e1, e1, hl, ih]
    by_cases h : 0 ≤ k ∧ k < (there zs.length sel).length
    · rw [if_pos h, if_pos h, e2]
      congr 1
      have hk : k.toNat < (there zs.length sel).length := by omega
      have hm : (there zs.length sel)[k.toNat] ∈ there zs.length sel := List.getElem_mem hk
      have hin : 0 ≤ (there zs.length sel)[k.toNat] ∧ (there zs.length sel)[k.toNat] < zs.length := by
        have := (List.mem_filter.1 hm).2; simpa using this
      rw [List.getElem?_eq_getElem hk, gath_there zs sel]
      simp only [Option.getD_some, List.getElem?_map, List.getElem?_eq_getElem hk, Option.map_some]
      simp [gath, hin]
    · rw [if_neg h, if_neg h]; rfl
end Go.Proofs.YtplckcnmpnnkgaaDoor
