/- Mathematics of a hash index: a table with open addressing, and chains of rows. -/
import Derived.Test.YtcecndjkfdaaaaaDoorSegMath
namespace Go.Proofs.YtcecndjkfdaaaaaDoor
set_option linter.unusedVariables false
set_option linter.unusedSimpArgs false

/-- How many different elements. -/
def dst : List (List Int) → Nat
  | [] => 0
  | x :: xs => if x ∈ xs then dst xs else dst xs + 1
theorem dst_list (l : List (List Int)) : ∃ m : List (List Int), m.Nodup ∧ (∀ x, x ∈ m ↔ x ∈ l) ∧ m.length = dst l := by
  induction l with
  | nil => exact ⟨[], List.nodup_nil, fun x => Iff.rfl, rfl⟩
  | cons y l ih =>
    obtain ⟨m, h1, h2, h3⟩ := ih
    by_cases h : y ∈ l
    · exact ⟨m, h1, fun x => by rw [h2, List.mem_cons]; constructor; exact .inr; rintro (rfl | hx); exact h; exact hx, by rw [h3, dst, if_pos h]⟩
    · exact ⟨y :: m, List.nodup_cons.2 ⟨fun hm => h ((h2 y).1 hm), h1⟩, fun x => by rw [List.mem_cons, List.mem_cons, h2], by rw [dst, if_neg h, List.length_cons, h3]⟩
theorem dst_nodup {l m : List (List Int)} (h1 : m.Nodup) (h2 : ∀ x, x ∈ m ↔ x ∈ l) : m.length = dst l := by
  obtain ⟨m', h1', h2', h3'⟩ := dst_list l
  rw [← h3']
  exact ((List.perm_ext_iff_of_nodup h1 h1').2 fun x => (h2 x).trans (h2' x).symm).length_eq
theorem dst_le (l : List (List Int)) : dst l ≤ l.length := by
  induction l with
  | nil => exact Nat.le_refl _
  | cons x l ih => rw [dst, List.length_cons]; split <;> omega

def at0 (l : List Int) (j : Nat) : Int := l[j]?.getD 0
theorem at0_set {l : List Int} {j : Nat} (k : Nat) (x : Int) (h : j < l.length) : at0 (l.set j x) k = if k = j then x else at0 l k := by
  unfold at0
  rw [List.getElem?_set]
  by_cases e : j = k
  · subst e; simp [h]
  · rw [if_neg e, if_neg (fun h => e h.symm)]
def kyAt (kys : List (List Int)) (i : Nat) : List Int := kys[i]?.getD []

/-- The table when the rows from r on have been added. -/
structure Tab (M : Nat) (H : List Int → Nat) (kys : List (List Int)) (r : Nat) (sl nx : List Int) (cnt : Nat) : Prop where
  sll : sl.length = M
  nxl : nx.length = kys.length
  rn : r ≤ kys.length
  room : kys.length < M
  slot : ∀ j, j < M → at0 sl j = 0 ∨ ∃ i : Nat, at0 sl j = (i : Int) + 1 ∧ r ≤ i ∧ i < kys.length ∧ ∀ i', r ≤ i' → i' < i → kyAt kys i' ≠ kyAt kys i
  apart : ∀ j j' (i i' : Nat), j < M → j' < M → at0 sl j = (i : Int) + 1 → at0 sl j' = (i' : Int) + 1 → kyAt kys i = kyAt kys i' → j = j'
  has : ∀ i, r ≤ i → i < kys.length → ∃ j, j < M ∧ ∃ i' : Nat, at0 sl j = (i' : Int) + 1 ∧ kyAt kys i' = kyAt kys i
  path : ∀ j (i : Nat), j < M → at0 sl j = (i : Int) + 1 → ∃ d, j = (H (kyAt kys i) + d) % M ∧ ∀ d', d' < d → at0 sl ((H (kyAt kys i) + d') % M) ≠ 0
  next : ∀ i, r ≤ i → i < kys.length → (at0 nx i = 0 ∧ ∀ i', i < i' → i' < kys.length → kyAt kys i' ≠ kyAt kys i) ∨ ∃ i' : Nat, at0 nx i = (i' : Int) + 1 ∧ i < i' ∧ i' < kys.length ∧ kyAt kys i' = kyAt kys i ∧ ∀ i'', i < i'' → i'' < i' → kyAt kys i'' ≠ kyAt kys i
  full : (sl.filter (fun x => decide (x ≠ 0))).length = cnt
  diff : cnt = dst (kys.drop r)

/-- Where a search for κ ends. -/
def FoundAt (M : Nat) (H : List Int → Nat) (kys : List (List Int)) (sl : List Int) (κ : List Int) (a : Nat) : Prop :=
  a < M ∧ ((at0 sl a = 0 ∧ (∀ j (i : Nat), j < M → at0 sl j = (i : Int) + 1 → kyAt kys i ≠ κ) ∧ ∃ d, a = (H κ + d) % M ∧ ∀ d', d' < d → at0 sl ((H κ + d') % M) ≠ 0) ∨ ∃ i : Nat, at0 sl a = (i : Int) + 1 ∧ kyAt kys i = κ)

theorem filter_set_pos {l : List Int} {j : Nat} {x : Int} (h : j < l.length) (hx : x ≠ 0) : ((l.set j x).filter (fun x => decide (x ≠ 0))).length = (l.filter (fun x => decide (x ≠ 0))).length + (if at0 l j = 0 then 1 else 0) := by
  induction l generalizing j with
  | nil => simp at h
  | cons y l ih =>
    cases j with
    | zero =>
      have e : at0 (y :: l) 0 = y := rfl
      rw [List.set_cons_zero, e]
      by_cases hy : y = 0 <;> simp [hx, hy]
    | succ j =>
      have e : at0 (y :: l) (j + 1) = at0 l j := by simp [at0]
      rw [List.set_cons_succ, e]
      have := ih (j := j) (by simpa using h)
      by_cases hy : y = 0
      · simp only [hy, List.filter_cons, ne_eq, not_true_eq_false, decide_false, Bool.false_eq_true, if_false] at this ⊢; exact this
      · simp only [List.filter_cons, ne_eq, hy, not_false_eq_true, decide_true, if_true, List.length_cons] at this ⊢; omega

/-- There is a free slot on every way. -/
theorem Tab.free {M : Nat} {H : List Int → Nat} {kys : List (List Int)} {r : Nat} {sl nx : List Int} {cnt : Nat} (h : Tab M H kys r sl nx cnt) : ∃ j, j < M ∧ at0 sl j = 0 := by
  refine Classical.byContradiction fun hn => ?_
  have e : sl.filter (fun x => decide (x ≠ 0)) = sl := by
    rw [List.filter_eq_self]
    intro x hx
    obtain ⟨j, hj, rfl⟩ := List.getElem_of_mem hx
    refine decide_eq_true fun h0 => hn ⟨j, by rw [← h.sll]; exact hj, ?_⟩
    unfold at0; rw [List.getElem?_eq_getElem hj]; exact h0
  have h1 := h.full
  rw [e, h.sll, h.diff] at h1
  have := dst_le (kys.drop r)
  have h2 := h.room
  simp at this
  omega
theorem way {M j : Nat} (a : Nat) (h : j < M) : ∃ d, (a + d) % M = j := by
  refine ⟨(M - a % M) + j, ?_⟩
  have hm : a % M < M := Nat.mod_lt _ (by omega)
  have e : a + ((M - a % M) + j) = j + M * (a / M + 1) := by
    have := Nat.div_add_mod a M
    rw [Nat.mul_add]
    omega
  rw [e, Nat.add_mul_mod_self_left, Nat.mod_eq_of_lt h]
theorem Tab.way {M : Nat} {H : List Int → Nat} {kys : List (List Int)} {r : Nat} {sl nx : List Int} {cnt : Nat} (h : Tab M H kys r sl nx cnt) (a : Nat) : ∃ d, at0 sl ((a + d) % M) = 0 := by
  obtain ⟨j, hj, h0⟩ := h.free
  obtain ⟨d, hd⟩ := YtcecndjkfdaaaaaDoor.way a hj
  exact ⟨d, by rw [hd]; exact h0⟩
/-- The search has passed d slots with other keys. -/
def Passed (M : Nat) (H : List Int → Nat) (kys : List (List Int)) (sl : List Int) (κ : List Int) (d : Nat) : Prop :=
  ∀ d', d' < d → ∃ i : Nat, at0 sl ((H κ + d') % M) = (i : Int) + 1 ∧ kyAt kys i ≠ κ
theorem Tab.found_zero {M : Nat} {H : List Int → Nat} {kys : List (List Int)} {r : Nat} {sl nx : List Int} {cnt : Nat} (h : Tab M H kys r sl nx cnt) {κ : List Int} {d : Nat} (hp : Passed M H kys sl κ d) (h0 : at0 sl ((H κ + d) % M) = 0) : FoundAt M H kys sl κ ((H κ + d) % M) := by
  have hM : 0 < M := by have := h.room; omega
  refine ⟨Nat.mod_lt _ hM, .inl ⟨h0, ?_, d, rfl, fun d' hd' => ?_⟩⟩
  · rintro j i hj hi rfl
    obtain ⟨dj, e, hdj⟩ := h.path j i hj hi
    rcases Nat.lt_trichotomy dj d with hlt | rfl | hgt
    · obtain ⟨i2, h2, h3⟩ := hp dj hlt
      rw [← e, hi] at h2
      obtain rfl : i = i2 := by omega
      exact h3 rfl
    · rw [← e, hi] at h0; omega
    · exact hdj d hgt h0
  · obtain ⟨i, hi, _⟩ := hp d' hd'
    rw [hi]; omega

theorem Tab.put {M : Nat} {H : List Int → Nat} {kys : List (List Int)} {r : Nat} {sl nx : List Int} {cnt a : Nat} (h : Tab M H kys (r + 1) sl nx cnt) (hf : FoundAt M H kys sl (kyAt kys r) a) :
    Tab M H kys r (sl.set a ((r : Int) + 1)) (nx.set r (at0 sl a)) (cnt + if at0 sl a = 0 then 1 else 0) := by
  have hrn : r < kys.length := h.rn
  have ha : a < sl.length := by rw [h.sll]; exact hf.1
  have hr : r < nx.length := by rw [h.nxl]; exact hrn
  have S : ∀ k, at0 (sl.set a ((r : Int) + 1)) k = if k = a then (r : Int) + 1 else at0 sl k := fun k => at0_set k _ ha
  have NZ : ∀ k, at0 sl k ≠ 0 → at0 (sl.set a ((r : Int) + 1)) k ≠ 0 := by
    intro k hk
    rw [S]
    by_cases e : k = a
    · rw [if_pos e]; omega
    · rw [if_neg e]; exact hk
  -- other slots have other keys
  have other : ∀ j (i : Nat), j < M → j ≠ a → at0 sl j = (i : Int) + 1 → kyAt kys i ≠ kyAt kys r := by
    intro j i hj hja hi e
    rcases hf.2 with ⟨_, hno, _⟩ | ⟨i0, h0, hk⟩
    · exact hno j i hj hi e
    · exact hja (h.apart j a i i0 hj hf.1 hi h0 (e.trans hk.symm))
  refine ⟨by rw [List.length_set]; exact h.sll, by rw [List.length_set]; exact h.nxl, Nat.le_of_lt hrn, h.room, ?_, ?_, ?_, ?_, ?_, ?_, ?_⟩
  · intro j hj
    rw [S]
    split
    · exact .inr ⟨r, rfl, Nat.le_refl _, hrn, fun i' h1 h2 => by omega⟩
    · rename_i hja
      rcases h.slot j hj with h0 | ⟨i, hi, h1, h2, h3⟩
      · exact .inl h0
      · refine .inr ⟨i, hi, by omega, h2, fun i' h4 h5 => ?_⟩
        by_cases e : i' = r
        · subst e; exact fun e => other j i hj hja hi e.symm
        · exact h3 i' (by omega) h5
  · intro j j' i i' hj hj' hi hi' e
    rw [S] at hi hi'
    by_cases h1 : j = a
    · by_cases h2 : j' = a
      · rw [h1, h2]
      · rw [if_pos h1] at hi
        rw [if_neg h2] at hi'
        obtain rfl : r = i := by omega
        exact absurd e.symm (other j' i' hj' h2 hi')
    · by_cases h2 : j' = a
      · rw [if_neg h1] at hi
        rw [if_pos h2] at hi'
        obtain rfl : r = i' := by omega
        exact absurd e (other j i hj h1 hi)
      · rw [if_neg h1] at hi
        rw [if_neg h2] at hi'
        exact h.apart j j' i i' hj hj' hi hi' e
  · intro i h1 h2
    by_cases e : i = r
    · subst e; exact ⟨a, hf.1, i, by rw [S, if_pos rfl], rfl⟩
    · obtain ⟨j, hj, i', hi', hk⟩ := h.has i (by omega) h2
      by_cases hja : j = a
      · refine ⟨a, hf.1, r, by rw [S, if_pos rfl], ?_⟩
        subst hja
        rcases hf.2 with ⟨h0, _⟩ | ⟨i0, h0, hk0⟩
        · rw [hi'] at h0; omega
        · rw [hi'] at h0
          obtain rfl : i' = i0 := by omega
          rw [← hk0, hk]
      · exact ⟨j, hj, i', by rw [S, if_neg hja]; exact hi', hk⟩
  · intro j i hj hi
    rw [S] at hi
    by_cases hja : j = a
    · rw [if_pos hja] at hi
      obtain rfl : r = i := by omega
      rcases hf.2 with ⟨h0, _, d, hd, hp⟩ | ⟨i0, h0, hk0⟩
      · exact ⟨d, by rw [hja]; exact hd, fun d' hd' => NZ _ (hp d' hd')⟩
      · obtain ⟨d, hd, hp⟩ := h.path a i0 hf.1 h0
        rw [hk0] at hd hp
        exact ⟨d, by rw [hja]; exact hd, fun d' hd' => NZ _ (hp d' hd')⟩
    · rw [if_neg hja] at hi
      obtain ⟨d, hd, hp⟩ := h.path j i hj hi
      exact ⟨d, hd, fun d' hd' => NZ _ (hp d' hd')⟩
  · intro i h1 h2
    rw [at0_set i _ hr]
    by_cases e : i = r
    · subst e
      rw [if_pos rfl]
      rcases hf.2 with ⟨h0, hno, _⟩ | ⟨i0, h0, hk0⟩
      · refine .inl ⟨h0, fun i' h3 h4 e => ?_⟩
        obtain ⟨j, hj, i2, hi2, hk⟩ := h.has i' (by omega) h4
        exact hno j i2 hj hi2 (hk.trans e)
      · rcases h.slot a hf.1 with h5 | ⟨i2, hi2, h6, h7, h8⟩
        · rw [h0] at h5; omega
        · obtain rfl : i2 = i0 := by omega
          exact .inr ⟨i2, hi2, by omega, h7, hk0, fun i'' h9 h10 e => h8 i'' (by omega) h10 (e.trans hk0.symm)⟩
    · rw [if_neg e]
      exact h.next i (by omega) h2
  · rw [filter_set_pos ha (by omega), h.full]
  · have ed : kys.drop r = kyAt kys r :: kys.drop (r + 1) := by
      rw [List.drop_eq_getElem_cons hrn]; simp [kyAt, hrn]
    rw [ed, dst, h.diff]
    rcases hf.2 with ⟨h0, hno, _⟩ | ⟨i0, h0, hk0⟩
    · rw [if_pos h0, if_neg]
      intro hm
      obtain ⟨k, hk, e⟩ := List.getElem_of_mem hm
      simp at hk
      obtain ⟨j, hj, i2, hi2, hk2⟩ := h.has (r + 1 + k) (by omega) (by omega)
      refine hno j i2 hj hi2 (hk2.trans ?_)
      rw [← e]
      simp [kyAt, show r + 1 + k < kys.length by omega]
    · rw [if_neg (by omega), Nat.add_zero, if_pos]
      rcases h.slot a hf.1 with h5 | ⟨i2, hi2, h6, h7, h8⟩
      · rw [h0] at h5; omega
      · obtain rfl : i2 = i0 := by omega
        rw [← hk0]
        have : kyAt kys i2 = (kys.drop (r + 1))[i2 - (r + 1)]'(by simp; omega) := by
          simp [kyAt, h7, show r + 1 + (i2 - (r + 1)) = i2 by omega]
        rw [this]
        exact List.getElem_mem _
theorem Tab.empty {M : Nat} (H : List Int → Nat) (kys : List (List Int)) (h : kys.length < M) : Tab M H kys kys.length (List.replicate M 0) (List.replicate kys.length 0) 0 := by
  have Z : ∀ j, at0 (List.replicate M 0) j = 0 := fun j => by
    unfold at0; by_cases hj : j < M <;> simp [List.getElem?_replicate, hj]
  refine ⟨by simp, by simp, Nat.le_refl _, h, fun j hj => .inl (Z j), fun j j' i i' _ _ hi => by rw [Z] at hi; omega, fun i h1 h2 => by omega, fun j i _ hi => by rw [Z] at hi; omega, fun i h1 h2 => by omega, ?_, ?_⟩
  · simp
  · rw [List.drop_eq_nil_of_le (Nat.le_refl _)]; rfl

/-- The rows with key κ, below m. -/
def rowsTo (kys : List (List Int)) (κ : List Int) (m : Nat) : List Nat := (List.range m).filter fun i => decide (kyAt kys i = κ)
def rowsOf (kys : List (List Int)) (κ : List Int) : List Nat := rowsTo kys κ kys.length
theorem rowsTo_skip {kys : List (List Int)} {κ : List Int} {m m' : Nat} (h : m ≤ m') (hn : ∀ i, m ≤ i → i < m' → kyAt kys i ≠ κ) : rowsTo kys κ m' = rowsTo kys κ m := by
  induction m' with
  | zero => obtain rfl : m = 0 := by omega
            rfl
  | succ m' ih =>
    by_cases e : m = m' + 1
    · rw [e]
    · have e1 : rowsTo kys κ (m' + 1) = rowsTo kys κ m' := by
        unfold rowsTo
        rw [List.range_succ, List.filter_append]
        simp [hn m' (by omega) (by omega)]
      rw [e1, ih (by omega) (fun i h1 h2 => hn i h1 (by omega))]
theorem rowsTo_hit {kys : List (List Int)} {κ : List Int} {m : Nat} (h : kyAt kys m = κ) : rowsTo kys κ (m + 1) = rowsTo kys κ m ++ [m] := by
  unfold rowsTo
  rw [List.range_succ, List.filter_append]
  simp [h]
theorem rowsTo_len (kys : List (List Int)) (κ : List Int) (m : Nat) : (rowsTo kys κ m).length ≤ m := by
  have := List.length_filter_le (fun i => decide (kyAt kys i = κ)) (List.range m)
  simpa [rowsTo] using this

/-- A step along the chain of κ: `at` is 0 at the end, else 1 + the next row. -/
def Chain (kys : List (List Int)) (κ : List Int) (x : Int) (done : List Nat) : Prop :=
  (x = 0 ∧ done = rowsOf kys κ) ∨ ∃ i : Nat, x = (i : Int) + 1 ∧ i < kys.length ∧ kyAt kys i = κ ∧ done = rowsTo kys κ i
theorem Tab.start {M : Nat} {H : List Int → Nat} {kys : List (List Int)} {sl nx : List Int} {cnt a : Nat} (h : Tab M H kys 0 sl nx cnt) {κ : List Int} (hf : FoundAt M H kys sl κ a) : Chain kys κ (at0 sl a) [] := by
  rcases hf.2 with ⟨h0, hno, _⟩ | ⟨i0, h0, hk0⟩
  · refine .inl ⟨h0, ?_⟩
    have := rowsTo_skip (kys := kys) (κ := κ) (m := 0) (m' := kys.length) (Nat.zero_le _) (fun i h1 h2 e => by
      obtain ⟨j, hj, i2, hi2, hk⟩ := h.has i h1 h2
      exact hno j i2 hj hi2 (hk.trans e))
    rw [rowsOf, this]; rfl
  · rcases h.slot a hf.1 with h5 | ⟨i2, hi2, h6, h7, h8⟩
    · rw [h0] at h5; omega
    · obtain rfl : i2 = i0 := by omega
      refine .inr ⟨i2, h0, h7, hk0, ?_⟩
      rw [rowsTo_skip (m := 0) (Nat.zero_le _) (fun i h1 h2 e => h8 i h1 h2 (e.trans hk0.symm))]; rfl
theorem Tab.step {M : Nat} {H : List Int → Nat} {kys : List (List Int)} {sl nx : List Int} {cnt : Nat} (h : Tab M H kys 0 sl nx cnt) {κ : List Int} {i : Nat} (hi : i < kys.length) (hk : kyAt kys i = κ) : Chain kys κ (at0 nx i) (rowsTo kys κ i ++ [i]) := by
  rw [← rowsTo_hit hk]
  rcases h.next i (Nat.zero_le _) hi with ⟨h0, hno⟩ | ⟨i', h1, h2, h3, h4, h5⟩
  · refine .inl ⟨h0, ?_⟩
    exact (rowsTo_skip (by omega) (fun i' h6 h7 e => hno i' (by omega) h7 (e.trans hk.symm))).symm
  · refine .inr ⟨i', h1, h3, h4.trans hk, ?_⟩
    exact (rowsTo_skip (by omega) (fun i'' h6 h7 e => h5 i'' (by omega) h7 (e.trans hk.symm))).symm
end Go.Proofs.YtcecndjkfdaaaaaDoor
