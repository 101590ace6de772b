/- The mathematics of JoinMany. -/
import Derived.Test.YtcecndjkfdaaaaaJn22
import Derived.Test.YtcecndjkfdaaaaaRelP
namespace Go.Proofs.Ytcecndjkfdaaaaa
open Go.RowKit Go.Shelf
set_option linter.unusedVariables false
set_option linter.unusedSimpArgs false

/-- How many i below n leave k. -/
def cntM (md : Nat) : Nat → Nat → Nat
  | 0, _ => 0
  | n + 1, k => cntM md n k + if n % md = k then 1 else 0
theorem cntM_div {md k : Nat} (hmd : md ≤ 16) (hk : k < md) : ∀ n, cntM md n k = (n + (md - 1 - k)) / md
  | 0 => by rw [Nat.zero_add, Nat.div_eq_of_lt (by omega)]; rfl
  | n + 1 => by
    have ih := cntM_div hmd hk n
    unfold cntM
    rw [ih]
    clear ih
    match md, hmd, hk with
    | 1, _, hk => split <;> omega
    | 2, _, hk => split <;> omega
    | 3, _, hk => split <;> omega
    | 4, _, hk => split <;> omega
    | 5, _, hk => split <;> omega
    | 6, _, hk => split <;> omega
    | 7, _, hk => split <;> omega
    | 8, _, hk => split <;> omega
    | 9, _, hk => split <;> omega
    | 10, _, hk => split <;> omega
    | 11, _, hk => split <;> omega
    | 12, _, hk => split <;> omega
    | 13, _, hk => split <;> omega
    | 14, _, hk => split <;> omega
    | 15, _, hk => split <;> omega
    | 16, _, hk => split <;> omega
    | m + 17, h, _ => omega
/-- The sum of c k * f k below K. -/
def sumM (c f : Nat → Nat) : Nat → Nat
  | 0 => 0
  | K + 1 => sumM c f K + c K * f K
theorem sumM_add (c f : Nat → Nat) (j K : Nat) : sumM (fun k => c k + if j = k then 1 else 0) f K = sumM c f K + if j < K then f j else 0 := by
  induction K with
  | zero => rfl
  | succ K ih =>
    unfold sumM
    rw [ih]
    by_cases h : j = K
    · subst h
      rw [if_neg (by omega), if_pos rfl, if_pos (by omega), Nat.add_mul]; omega
    · rw [if_neg h]
      by_cases h2 : j < K
      · rw [if_pos h2, if_pos (by omega)]; simp; omega
      · rw [if_neg h2, if_neg (by omega)]; simp
theorem sumM_zero (f : Nat → Nat) (K : Nat) : sumM (fun _ => 0) f K = 0 := by
  induction K with
  | zero => rfl
  | succ K ih => unfold sumM; rw [ih]; simp
theorem sumM_le {c f : Nat → Nat} {a b : Nat} (hc : ∀ k, c k ≤ a) (hf : ∀ k, f k ≤ b) (K : Nat) : sumM c f K ≤ K * (a * b) := by
  induction K with
  | zero => simp [sumM]
  | succ K ih =>
    unfold sumM
    have := Nat.mul_le_mul (hc K) (hf K)
    rw [Nat.succ_mul]; omega
theorem cntM_le (md n k : Nat) : cntM md n k ≤ n := by
  induction n with
  | zero => exact Nat.le_refl _
  | succ n ih => unfold cntM; split <;> omega

def rowA (md i : Nat) : List Int := [(i : Int), ((i % md : Nat) : Int)]
def rowsA (md n : Nat) : List (List Int) := (List.range n).map (rowA md)
def rowB (md i : Nat) : List Int := [((i % md : Nat) : Int), (i : Int)]
def rowsB (md n : Nat) : List (List Int) := (List.range n).map (rowB md)
theorem rowsA_succ (md i : Nat) : rowsA md (i + 1) = rowsA md i ++ [rowA md i] := by simp [rowsA, List.range_succ]
theorem rowsB_succ (md i : Nat) : rowsB md (i + 1) = rowsB md i ++ [rowB md i] := by simp [rowsB, List.range_succ]
theorem rowsA_len (md n : Nat) : (rowsA md n).length = n := by simp [rowsA]
theorem rowsB_len (md n : Nat) : (rowsB md n).length = n := by simp [rowsB]
theorem rowsA_sorted (md n : Nat) : SortedR (rowsA md n) := by
  unfold SortedR rowsA
  rw [List.pairwise_map]
  refine List.Pairwise.imp_of_mem (fun _ _ h => ?_) (List.pairwise_lt_range (n := n))
  rename_i a b _ _
  unfold rowA
  rw [cmpR_cons, if_pos (by omega)]
  decide
theorem rowsA_rel (md n : Nat) : relOf ((2 : Nat) : Int) (rowsA md n) = rowsA md n :=
  rel_self (rowsA_sorted md n) (fun r h => by obtain ⟨i, _, rfl⟩ := List.mem_map.1 h; rfl)
theorem rowsB_perm (md n : Nat) : (relOf ((2 : Nat) : Int) (rowsB md n)).Perm (rowsB md n) := by
  have := rel_perm 2 (rowsB md n) [] (fun r h => by obtain ⟨i, _, rfl⟩ := List.mem_map.1 h; rfl) (fun r _ h => by cases h) (by
    unfold rowsB
    rw [List.pairwise_map]
    refine List.Pairwise.imp_of_mem (fun _ _ h => ?_) (List.pairwise_lt_range (n := n))
    rename_i a b _ _
    unfold rowB
    intro e
    simp at e
    omega)
  rwa [List.append_nil] at this
theorem rowsTo_count (kys : List (List Int)) (κ : List Int) : ∀ m, m ≤ kys.length → (rowsTo kys κ m).length = (kys.take m).countP (fun x => decide (x = κ))
  | 0, _ => by simp [rowsTo]
  | m + 1, h => by
    rw [rowsTo_one, rowsTo_count kys κ m (by omega), List.take_succ_eq_append_getElem (by omega), List.countP_append]
    have : kyAt kys m = kys[m] := by simp [kyAt, show m < kys.length by omega]
    rw [this]
    by_cases e : kys[m] = κ <;> simp [e]
theorem count_keys (md k : Nat) : ∀ m, ((rowsB md m).map fun r => keyL r [0]).countP (fun x => decide (x = [(k : Int)])) = cntM md m k
  | 0 => rfl
  | m + 1 => by
    have es : cntM md (m + 1) k = cntM md m k + if m % md = k then 1 else 0 := rfl
    rw [rowsB_succ, List.map_append, List.countP_append, count_keys md k m, es]
    have : keyL (rowB md m) [0] = [((m % md : Nat) : Int)] := by simp [keyL, rowB]
    simp only [List.map_cons, List.map_nil, this]
    by_cases e : m % md = k
    · simp [e]
    · have e2 : ¬ ((m : Int) % (md : Int) = (k : Int)) := by omega
      simp [e, e2]
theorem lenMany (md n m : Nat) (hmd : 1 ≤ md) : (pairsOf ((rowsA md n).map fun r => keyL r [1]) ((relOf ((2 : Nat) : Int) (rowsB md m)).map fun r => keyL r [0])).length = sumM (cntM md n) (cntM md m) md := by
  have hp : ((relOf ((2 : Nat) : Int) (rowsB md m)).map fun r => keyL r [0]).Perm ((rowsB md m).map fun r => keyL r [0]) := (rowsB_perm md m).map _
  unfold pairsOf
  rw [lenTo_pairs]
  have hkl : ((rowsA md n).map fun r => keyL r [1]).length = n := by simp [rowsA_len]
  rw [hkl]
  have row : ∀ i, i < n → (rowsTo ((relOf ((2 : Nat) : Int) (rowsB md m)).map fun r => keyL r [0]) (kyAt ((rowsA md n).map fun r => keyL r [1]) i) ((relOf ((2 : Nat) : Int) (rowsB md m)).map fun r => keyL r [0]).length).length = cntM md m (i % md) := by
    intro i hi
    have ek : kyAt ((rowsA md n).map fun r => keyL r [1]) i = [((i % md : Nat) : Int)] := by
      simp [kyAt, rowsA, hi, keyL, rowA]
    rw [ek, rowsTo_count _ _ _ (Nat.le_refl _), List.take_length, hp.countP_eq, count_keys]
  have : ∀ j, j ≤ n → lenTo ((rowsA md n).map fun r => keyL r [1]) ((relOf ((2 : Nat) : Int) (rowsB md m)).map fun r => keyL r [0]) j ((relOf ((2 : Nat) : Int) (rowsB md m)).map fun r => keyL r [0]).length = sumM (cntM md j) (cntM md m) md := by
    intro j
    induction j with
    | zero => intro _; rw [show cntM md 0 = fun _ => 0 from rfl, sumM_zero]; rfl
    | succ j ih =>
      intro hj
      rw [lenTo_succ, ih (by omega), row j (by omega)]
      have e : cntM md (j + 1) = fun k => cntM md j k + if j % md = k then 1 else 0 := rfl
      rw [e, sumM_add, if_pos (Nat.mod_lt _ hmd)]
  exact this n (Nat.le_refl _)
end Go.Proofs.Ytcecndjkfdaaaaa
