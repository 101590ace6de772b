/- The mathematics of BestOrders. -/
import Derived.Test.YtcecndjkfdaaaaaBs10
import Derived.Test.YtcecndjkfdaaaaaIx9
namespace Go.Proofs.Ytcecndjkfdaaaaa
open Go.RowKit Go.Maps
set_option linter.unusedVariables false
set_option linter.unusedSimpArgs false

/-- A row of three numbers, as a key and a cost. -/
def entE (r : List Int) : Option Ent := if r.length = 3 then some (r.take 2, r[2]?.getD 0) else none
def optL (o : Option Ent) : List Ent := match o with | none => [] | some e => [e]
def entsA (A : List (List Int)) (i : Nat) : List Ent := (A.take i).filterMap entE
theorem entsA_succ {A : List (List Int)} {i : Nat} (h : i < A.length) : entsA A (i + 1) = entsA A i ++ optL (entE (rowAt A i)) := by
  unfold entsA
  rw [List.take_succ_eq_append_getElem h, List.filterMap_append]
  have : rowAt A i = A[i] := by simp [rowAt, h]
  rw [this]
  cases hE : entE A[i] <;> simp [optL, hE]
/-- The rows from another one on. -/
def shR (A : List (List Int)) (m i : Nat) : List (List Int) := (List.range i).map fun t => rowAt A ((t + m) % A.length)
def entsS (A : List (List Int)) (m i : Nat) : List Ent := (shR A m i).filterMap entE
theorem entsS_succ (A : List (List Int)) (m i : Nat) : entsS A m (i + 1) = entsS A m i ++ optL (entE (rowAt A ((i + m) % A.length))) := by
  unfold entsS shR
  rw [List.range_succ, List.map_append, List.filterMap_append]
  cases hE : entE (rowAt A ((i + m) % A.length)) <;> simp [optL, hE]
theorem shift_all {n m j : Nat} (h : j < n) : ∃ i, i < n ∧ (i + m) % n = j := by
  refine ⟨(j + (n - m % n)) % n, Nat.mod_lt _ (by omega), ?_⟩
  rw [Nat.mod_add_mod]
  have h1 := Nat.div_add_mod m n
  have h2 : m % n < n := Nat.mod_lt _ (by omega)
  have h3 : j + (n - m % n) + m = j + n * (m / n + 1) := by rw [Nat.mul_add]; omega
  rw [h3, Nat.add_mul_mod_self_left, Nat.mod_eq_of_lt h]
theorem mem_shift (A : List (List Int)) (m : Nat) (r : List Int) : r ∈ shR A m A.length ↔ r ∈ A := by
  unfold shR
  rw [List.mem_map]
  constructor
  · rintro ⟨t, ht, rfl⟩
    have : t < A.length := List.mem_range.1 ht
    exact rowAt_mem (Nat.mod_lt _ (by omega))
  · intro h
    obtain ⟨j, hj, e⟩ := List.getElem_of_mem h
    obtain ⟨i, hi, hij⟩ := shift_all (m := m) hj
    exact ⟨i, List.mem_range.2 hi, by rw [hij]; simp [rowAt, hj, e]⟩
theorem ents_same (A : List (List Int)) (m : Nat) (e : Ent) : e ∈ entsA A A.length ↔ e ∈ entsS A m A.length := by
  unfold entsA entsS
  rw [List.take_length]
  simp only [List.mem_filterMap, mem_shift]
theorem BestIn.opt {great : Bool} {l es : List Ent} (h : BestIn great l es) (k : List Int) (c : Int) : BestIn great (l ++ optL (some (k, c))) (putE great es k c) := h.put k c
theorem put_len1 (great : Bool) (es : List Ent) (k : List Int) (c : Int) : (putE great es k c).length ≤ es.length + 1 := by
  rw [put_len]; split <;> omega
theorem list3 {xs : List Int} (h : xs.length = 3) : ∃ x y z, xs = [x, y, z] := by
  match xs, h with
  | [x, y, z], _ => exact ⟨x, y, z, rfl⟩
theorem row_three {w : World} {a : Option Addr} {x y z : Int} (h : Row w a [x, y, z]) : ∃ b off, a = some ⟨b, off, none⟩ ∧ b < w.heap.size ∧ w.cell? ⟨b, off + 2, none⟩ = some (.int .i64 z) ∧ Row w a [x, y] := by
  rcases h with h | ⟨b, off, rfl, hb, hc⟩
  · cases h
  · refine ⟨b, off, rfl, hb, hc 2 (by simp), .inr ⟨b, off, rfl, hb, fun i hi => ?_⟩⟩
    match i, hi with
    | 0, _ => exact hc 0 (by simp)
    | 1, _ => exact hc 1 (by simp)
end Go.Proofs.Ytcecndjkfdaaaaa
