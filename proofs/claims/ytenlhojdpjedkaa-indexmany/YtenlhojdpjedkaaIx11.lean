/- Mathematics of IndexWhole and IndexProbes. Written by mkix10.py. -/
import Derived.Test.YtenlhojdpjedkaaIx10
namespace Go.Proofs.Ytenlhojdpjedkaa
open Go.RowKit
set_option linter.unusedVariables false
set_option linter.unusedSimpArgs false

theorem filter_split {α : Type} (l : List α) (p q r : α → Bool) (h : ∀ x ∈ l, r x = (p x || q x)) (hd : ∀ x ∈ l, ¬ (p x = true ∧ q x = true)) : (l.filter r).length = (l.filter p).length + (l.filter q).length := by
  induction l with
  | nil => rfl
  | cons x l ih =>
    have h1 := ih (fun y hy => h y (List.mem_cons_of_mem _ hy)) (fun y hy => hd y (List.mem_cons_of_mem _ hy))
    have h2 := h x List.mem_cons_self
    have h3 := hd x List.mem_cons_self
    rw [List.filter_cons, List.filter_cons, List.filter_cons, h2]
    cases hp : p x <;> cases hq : q x <;> simp [hp, hq] at h3 ⊢ <;> omega
/-- How many rows have a key that is among those of the first i rows. -/
def cov (kys : List (List Int)) (i : Nat) : Nat := ((List.range kys.length).filter fun r => decide (kyAt kys r ∈ kys.take i)).length
theorem kyAt_eq {kys : List (List Int)} {i : Nat} (h : i < kys.length) : kyAt kys i = kys[i] := by simp [kyAt, h]
theorem take_kys {kys : List (List Int)} {i : Nat} (h : i < kys.length) : kys.take (i + 1) = kys.take i ++ [kyAt kys i] := by
  rw [List.take_succ_eq_append_getElem h, kyAt_eq h]
theorem cov_old {kys : List (List Int)} {i : Nat} (h : i < kys.length) (hm : kyAt kys i ∈ kys.take i) : cov kys (i + 1) = cov kys i := by
  unfold cov
  congr 1
  apply List.filter_congr
  intro r _
  rw [take_kys h, decide_eq_decide]
  simp only [List.mem_append, List.mem_singleton]
  constructor
  · rintro (h1 | h1)
    · exact h1
    · rw [h1]; exact hm
  · exact .inl
theorem cov_new {kys : List (List Int)} {i : Nat} (h : i < kys.length) (hm : ¬ kyAt kys i ∈ kys.take i) : cov kys (i + 1) = cov kys i + (rowsOf kys (kyAt kys i)).length := by
  unfold cov rowsOf rowsTo
  refine filter_split _ _ _ _ (fun r _ => ?_) (fun r _ h2 => ?_)
  · rw [take_kys h]
    by_cases h1 : kyAt kys r ∈ kys.take i <;> by_cases h2 : kyAt kys r = kyAt kys i <;> simp [h1, h2]
  · simp only [decide_eq_true_eq] at h2
    exact hm (h2.2 ▸ h2.1)
theorem cov_all (kys : List (List Int)) : cov kys kys.length = kys.length := by
  unfold cov
  rw [List.take_length]
  have : (List.range kys.length).filter (fun r => decide (kyAt kys r ∈ kys)) = List.range kys.length := by
    rw [List.filter_eq_self]
    intro r hr
    have hr' : r < kys.length := by simpa using hr
    rw [kyAt_eq hr']
    exact decide_eq_true (List.getElem_mem _)
  rw [this, List.length_range]
theorem cov_zero (kys : List (List Int)) : cov kys 0 = 0 := by
  unfold cov
  rw [List.filter_eq_nil_iff.2 (by simp)]; rfl
theorem cov_le (kys : List (List Int)) (i : Nat) : cov kys i ≤ kys.length := by
  have := List.length_filter_le (fun r => decide (kyAt kys r ∈ kys.take i)) (List.range kys.length)
  simpa [cov] using this
/-- So many different keys among the first i rows. -/
def Uniq (kys : List (List Int)) (i : Nat) (U : List (List Int)) : Prop := U.Nodup ∧ ∀ x, x ∈ U ↔ x ∈ kys.take i
theorem Uniq.nil (kys : List (List Int)) : Uniq kys 0 [] := ⟨List.nodup_nil, fun x => by simp⟩
theorem Uniq.old {kys : List (List Int)} {i : Nat} {U : List (List Int)} (hu : Uniq kys i U) (h : i < kys.length) (hm : kyAt kys i ∈ kys.take i) : Uniq kys (i + 1) U :=
  ⟨hu.1, fun x => by rw [hu.2, take_kys h, List.mem_append, List.mem_singleton]; exact ⟨.inl, fun h => h.elim id (fun e => e ▸ hm)⟩⟩
theorem Uniq.new {kys : List (List Int)} {i : Nat} {U : List (List Int)} (hu : Uniq kys i U) (h : i < kys.length) (hm : ¬ kyAt kys i ∈ kys.take i) : Uniq kys (i + 1) (U ++ [kyAt kys i]) := by
  refine ⟨?_, fun x => by rw [List.mem_append, hu.2, take_kys h, List.mem_append]⟩
  rw [List.nodup_append]
  exact ⟨hu.1, by simp, fun a ha b hb e => by rw [List.mem_singleton] at hb; subst hb; subst e; exact hm ((hu.2 _).1 ha)⟩
theorem Uniq.len {kys : List (List Int)} {i : Nat} {U : List (List Int)} (hu : Uniq kys i U) : U.length ≤ i := by
  rw [dst_nodup hu.1 hu.2]
  exact Nat.le_trans (dst_le _) (by simp; omega)
theorem Uniq.all {kys : List (List Int)} {U : List (List Int)} (hu : Uniq kys kys.length U) : U.length = dst kys := dst_nodup hu.1 (fun x => by rw [hu.2, List.take_length])
/-- The first row of a key is found first. -/
theorem first_new {kys : List (List Int)} {i : Nat} (h : i < kys.length) (hm : ¬ kyAt kys i ∈ kys.take i) : (ints (rowsOf kys (kyAt kys i)))[0]?.getD 0 = (i : Int) ∧ 0 < (ints (rowsOf kys (kyAt kys i))).length := by
  have e : rowsTo kys (kyAt kys i) i = [] := by
    unfold rowsTo
    rw [List.filter_eq_nil_iff]
    intro j hj
    have hj' : j < i := by simpa using hj
    simp only [decide_eq_true_eq]
    intro e
    refine hm (e ▸ ?_)
    rw [kyAt_eq (by omega)]
    exact List.mem_take_iff_getElem.2 ⟨j, by omega, rfl⟩
  have := rowsOf_at h rfl
  rw [e] at this
  exact ⟨this.2, this.1⟩
theorem first_old {kys : List (List Int)} {i : Nat} (h : i < kys.length) (hm : kyAt kys i ∈ kys.take i) : (ints (rowsOf kys (kyAt kys i)))[0]?.getD 0 ≠ (i : Int) ∧ 0 < (ints (rowsOf kys (kyAt kys i))).length := by
  obtain ⟨j, hj, e⟩ := List.mem_take_iff_getElem.1 hm
  have hj1 : j < i := by omega
  have hj2 : j < kys.length := by omega
  have ek : kyAt kys j = kyAt kys i := by rw [kyAt_eq hj2]; exact e
  obtain ⟨t, ht⟩ := rowsTo_more ek _ hj2
  have hlt : ∀ x ∈ rowsTo kys (kyAt kys i) j, x < j := fun x hx => by
    unfold rowsTo at hx
    simpa using (List.mem_filter.1 hx).1
  rw [rowsOf, ht]
  cases hL : rowsTo kys (kyAt kys i) j with
  | nil => simp [ints]; omega
  | cons x L =>
    have := hlt x (by rw [hL]; exact List.mem_cons_self)
    simp [ints]; omega
end Go.Proofs.Ytenlhojdpjedkaa
