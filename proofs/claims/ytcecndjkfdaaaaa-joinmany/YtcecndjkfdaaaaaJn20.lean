/- The mathematics of JoinTurned. -/
import Derived.Test.YtcecndjkfdaaaaaJn19
namespace Go.Proofs.Ytcecndjkfdaaaaa
open Go.RowKit Go.Shelf
set_option linter.unusedVariables false
set_option linter.unusedSimpArgs false

theorem mem_pairs {kas kbs : List (List Int)} {x : Int × Int} : x ∈ pairsOf kas kbs ↔ ∃ i j : Nat, i < kas.length ∧ j < kbs.length ∧ kyAt kbs j = kyAt kas i ∧ x = ((i : Int), (j : Int)) := by
  simp only [pairsOf, pairsTo, rowPairs, ints, rowsOf, rowsTo, List.mem_flatMap, List.mem_map, List.mem_filter, List.mem_range, decide_eq_true_eq]
  constructor
  · rintro ⟨i, hi, y, ⟨j, ⟨hj, hk⟩, rfl⟩, rfl⟩
    exact ⟨i, j, hi, hj, hk, rfl⟩
  · rintro ⟨i, j, hi, hj, hk, rfl⟩
    exact ⟨i, hi, _, ⟨j, ⟨hj, hk⟩, rfl⟩, rfl⟩
theorem pairs_swap {kas kbs : List (List Int)} {x : Int × Int} (h : x ∈ pairsOf kas kbs) : (x.2, x.1) ∈ pairsOf kbs kas := by
  obtain ⟨i, j, hi, hj, hk, rfl⟩ := mem_pairs.1 h
  exact mem_pairs.2 ⟨j, i, hj, hi, hk.symm, rfl⟩
def lenTo (kas kbs : List (List Int)) (n m : Nat) : Nat := ((List.range n).map fun i => (rowsTo kbs (kyAt kas i) m).length).sum
theorem lenTo_succ (kas kbs : List (List Int)) (n m : Nat) : lenTo kas kbs (n + 1) m = lenTo kas kbs n m + (rowsTo kbs (kyAt kas n) m).length := by
  simp [lenTo, List.range_succ]
theorem lenTo_pairs (kas kbs : List (List Int)) (n : Nat) : (pairsTo kas kbs n).length = lenTo kas kbs n kbs.length := by
  induction n with
  | zero => rfl
  | succ n ih => rw [pairsTo_succ, List.length_append, ih, lenTo_succ]; simp [rowPairs, ints, rowsOf]
theorem rowsTo_one (kys : List (List Int)) (κ : List Int) (m : Nat) : (rowsTo kys κ (m + 1)).length = (rowsTo kys κ m).length + if kyAt kys m = κ then 1 else 0 := by
  by_cases h : kyAt kys m = κ
  · rw [rowsTo_hit h]; simp [h]
  · rw [rowsTo_step_no h]; simp [h]
theorem lenTo_more (kas kbs : List (List Int)) (n m : Nat) : lenTo kas kbs n (m + 1) = lenTo kas kbs n m + (rowsTo kas (kyAt kbs m) n).length := by
  induction n with
  | zero => simp [lenTo, rowsTo]
  | succ n ih =>
    rw [lenTo_succ, lenTo_succ, ih, rowsTo_one, rowsTo_one]
    by_cases h : kyAt kbs m = kyAt kas n
    · rw [if_pos h, if_pos h.symm]; omega
    · rw [if_neg h, if_neg (fun e => h e.symm)]; omega
theorem lenTo_swap (kas kbs : List (List Int)) (n m : Nat) : lenTo kas kbs n m = lenTo kbs kas m n := by
  induction m with
  | zero =>
    have : ∀ n, lenTo kas kbs n 0 = 0 := fun n => by
      induction n with
      | zero => rfl
      | succ n ih => rw [lenTo_succ, ih]; simp [rowsTo]
    rw [this]; rfl
  | succ m ih => rw [lenTo_more, ih, lenTo_succ]
theorem pairs_len_swap (kas kbs : List (List Int)) : (pairsOf kas kbs).length = (pairsOf kbs kas).length := by
  unfold pairsOf
  rw [lenTo_pairs, lenTo_pairs, lenTo_swap]
theorem rows_diag {rs : List (List Int)} (hd : ∀ i j, i < rs.length → j < rs.length → kyAt rs i = kyAt rs j → i = j) {i : Nat} (hi : i < rs.length) : ∀ m, m ≤ rs.length → rowsTo rs (kyAt rs i) m = if i < m then [i] else []
  | 0, _ => by simp [rowsTo]
  | m + 1, hm => by
    have ih := rows_diag hd hi m (by omega)
    by_cases h : kyAt rs m = kyAt rs i
    · have e := hd m i (by omega) hi h
      subst e
      rw [rowsTo_hit h, ih, if_neg (by omega), if_pos (by omega)]; rfl
    · rw [rowsTo_step_no h, ih]
      have hne : m ≠ i := fun e => h (by rw [e])
      by_cases h2 : i < m
      · rw [if_pos h2, if_pos (by omega)]
      · rw [if_neg h2, if_neg (by omega)]
theorem pairs_diag {rs : List (List Int)} (hd : ∀ i j, i < rs.length → j < rs.length → kyAt rs i = kyAt rs j → i = j) : ∀ m, m ≤ rs.length → pairsTo rs rs m = (List.range m).map fun (i : Nat) => ((i : Int), (i : Int))
  | 0, _ => rfl
  | m + 1, hm => by
    rw [pairsTo_succ, pairs_diag hd m (by omega), List.range_succ, List.map_append]
    have : rowsOf rs (kyAt rs m) = [m] := by unfold rowsOf; rw [rows_diag hd (by omega) _ (Nat.le_refl _), if_pos (by omega)]
    rw [this]; rfl
theorem sorted_diff {rs : List (List Int)} (h : SortedR rs) : ∀ i j, i < rs.length → j < rs.length → kyAt rs i = kyAt rs j → i = j := by
  intro i j hi hj he
  have hp := List.pairwise_iff_getElem.1 h
  unfold kyAt at he
  rw [List.getElem?_eq_getElem hi, List.getElem?_eq_getElem hj] at he
  simp only [Option.getD_some] at he
  rcases Nat.lt_trichotomy i j with h1 | h1 | h1
  · exact absurd he (cmpR_lt_ne (hp i j hi hj h1))
  · exact h1
  · exact absurd he.symm (cmpR_lt_ne (hp j i hj hi h1))
def allTo (m : Nat) : List Int := (List.range m).map fun (i : Nat) => (i : Int)
theorem allTo_succ (m : Nat) : allTo (m + 1) = allTo m ++ [(m : Int)] := by simp [allTo, List.range_succ]
theorem allTo_len (m : Nat) : (allTo m).length = m := by simp [allTo]
theorem keyL_all {r : List Int} : ∀ m, m ≤ r.length → keyL r (allTo m) = r.take m
  | 0, _ => by simp [keyL, allTo]
  | m + 1, h => by
    have ih := keyL_all (r := r) m (by omega)
    rw [allTo_succ]
    unfold keyL at ih ⊢
    rw [List.filterMap_append, ih, List.take_succ_eq_append_getElem (by omega)]
    simp [show m < r.length by omega]
theorem keys_all {rs : List (List Int)} {wd : Nat} (h : ∀ r ∈ rs, r.length = wd) : (rs.map fun r => keyL r (allTo wd)) = rs := by
  have : ∀ r ∈ rs, keyL r (allTo wd) = r := fun r hr => by rw [keyL_all wd (by rw [h r hr]; exact Nat.le_refl _), List.take_of_length_le (by rw [h r hr]; exact Nat.le_refl _)]
  rw [List.map_congr_left this]; simp
end Go.Proofs.Ytcecndjkfdaaaaa
