/- Plain mathematics of checked 64-bit arithmetic: what each operation of package arith comes to; no program in sight. -/
import Derived.IntWalk
namespace Go.Proofs.YtcecndjkfdaaaaaDoor
open Go.RowKit Go
set_option linter.unusedVariables false

def inR (n : Int) : Bool := decide (-9223372036854775808 ≤ n ∧ n ≤ 9223372036854775807)
theorem inR_of {n : Int} (h : -9223372036854775808 ≤ n) (h' : n ≤ 9223372036854775807) : inR n = true := by simp [inR, h, h']
theorem inR_not {n : Int} (h : n < -9223372036854775808 ∨ 9223372036854775807 < n) : inR n = false := by
  simp only [inR, decide_eq_false_iff_not]; omega
theorem inR_bd {n : Int} (h : inR n = true) : -9223372036854775808 ≤ n ∧ n ≤ 9223372036854775807 := by simpa [inR] using h
theorem inR_no {n : Int} (h : inR n = false) : n < -9223372036854775808 ∨ 9223372036854775807 < n := by
  simp only [inR, decide_eq_false_iff_not] at h; omega

/-- Which operations have a result. -/
def doOk (o a b : Int) : Bool :=
  if o = 0 then inR (a + b) else if o = 1 then inR (a - b) else if o = 2 then inR (a * b) else if o = 3 then decide (b ≠ 0) && inR (a.tdiv b) else if o = 4 then decide (b ≠ 0) else false
/-- The exact result, where there is one; else 0. -/
def doVal (o a b : Int) : Int :=
  if doOk o a b = true then (if o = 0 then a + b else if o = 1 then a - b else if o = 2 then a * b else if o = 3 then a.tdiv b else a.tmod b) else 0

theorem tmod_bd {a b : Int} (ha : -9223372036854775808 ≤ a) (ha' : a ≤ 9223372036854775807) : -9223372036854775808 ≤ a.tmod b ∧ a.tmod b ≤ 9223372036854775807 := by
  have h := Int.natAbs_tmod a b
  have h2 : a.natAbs % b.natAbs ≤ a.natAbs := Nat.mod_le _ _
  rcases Int.le_total 0 a with h0 | h0
  · have := Int.tmod_nonneg b h0; omega
  · have : (a.tmod b) ≤ 0 := by
      have := Int.tmod_nonneg b (a := -a) (by omega)
      rw [Int.neg_tmod] at this; omega
    omega
theorem doVal_bd (o a b : Int) (ha : -9223372036854775808 ≤ a) (ha' : a ≤ 9223372036854775807) : -9223372036854775808 ≤ doVal o a b ∧ doVal o a b ≤ 9223372036854775807 := by
  unfold doVal
  by_cases h : doOk o a b = true
  · rw [if_pos h]
    unfold doOk at h
    split
    · rw [if_pos ‹_›] at h; exact inR_bd h
    · rw [if_neg ‹_›] at h; split
      · rw [if_pos ‹_›] at h; exact inR_bd h
      · rw [if_neg ‹_›] at h; split
        · rw [if_pos ‹_›] at h; exact inR_bd h
        · rw [if_neg ‹_›] at h; split
          · rw [if_pos ‹_›] at h; exact inR_bd (by simp at h; exact h.2)
          · exact tmod_bd ha ha'
  · rw [if_neg h]; omega

theorem pair_no {o a b : Int} (h : doOk o a b = false) : doVal o a b = 0 ∧ doOk o a b = false := ⟨by simp [doVal, h], h⟩
theorem doVal0 {a b : Int} (h : inR (a + b) = true) : doVal 0 a b = a + b := by simp [doVal, doOk, h]
theorem doVal1 {a b : Int} (h : inR (a - b) = true) : doVal 1 a b = a - b := by simp [doVal, doOk, h]
theorem doVal2 {a b : Int} (h : inR (a * b) = true) : doVal 2 a b = a * b := by simp [doVal, doOk, h]
theorem doOk0 {a b : Int} : doOk 0 a b = inR (a + b) := by simp [doOk]
theorem doOk1 {a b : Int} : doOk 1 a b = inR (a - b) := by simp [doOk]
theorem doOk2 {a b : Int} : doOk 2 a b = inR (a * b) := by simp [doOk]
theorem doOk3 {a b : Int} : doOk 3 a b = (decide (b ≠ 0) && inR (a.tdiv b)) := by simp [doOk]
theorem doOk4 {a b : Int} : doOk 4 a b = decide (b ≠ 0) := by simp [doOk]

theorem add_no {a b : Int} (ha : -9223372036854775808 ≤ a) (ha' : a ≤ 9223372036854775807) (hb : -9223372036854775808 ≤ b) (hb' : b ≤ 9223372036854775807)
    (h : (!decide (wrap64 (a + b) < a) == decide (b < 0)) = true) : inR (a + b) = false := by
  apply Bool.eq_false_iff.2; intro hr
  have := inR_bd hr
  rw [IntWalk.wrap64_in _ this] at h
  by_cases h0 : b < 0 <;> simp [h0] at h <;> omega
theorem add_yes {a b : Int} (ha : -9223372036854775808 ≤ a) (ha' : a ≤ 9223372036854775807) (hb : -9223372036854775808 ≤ b) (hb' : b ≤ 9223372036854775807)
    (h : (!decide (wrap64 (a + b) < a) == decide (b < 0)) = false) : inR (a + b) = true := by
  apply Decidable.byContradiction; intro hr
  have hr := inR_no (by simpa using hr)
  by_cases h0 : b < 0 <;> simp [h0, wrap64] at h <;> omega
theorem sub_no {a b : Int} (ha : -9223372036854775808 ≤ a) (ha' : a ≤ 9223372036854775807) (hb : -9223372036854775808 ≤ b) (hb' : b ≤ 9223372036854775807)
    (h : (!decide (a < wrap64 (a - b)) == decide (b < 0)) = true) : inR (a - b) = false := by
  apply Bool.eq_false_iff.2; intro hr
  have := inR_bd hr
  rw [IntWalk.wrap64_in _ this] at h
  by_cases h0 : b < 0 <;> simp [h0] at h <;> omega
theorem sub_yes {a b : Int} (ha : -9223372036854775808 ≤ a) (ha' : a ≤ 9223372036854775807) (hb : -9223372036854775808 ≤ b) (hb' : b ≤ 9223372036854775807)
    (h : (!decide (a < wrap64 (a - b)) == decide (b < 0)) = false) : inR (a - b) = true := by
  apply Decidable.byContradiction; intro hr
  have hr := inR_no (by simpa using hr)
  by_cases h0 : b < 0 <;> simp [h0, wrap64] at h <;> omega

theorem wrap64_eq (n : Int) : ∃ k : Int, wrap64 n = n - k * 18446744073709551616 ∧ -9223372036854775808 ≤ wrap64 n ∧ wrap64 n ≤ 9223372036854775807 := by
  refine ⟨(n + 9223372036854775808) / 18446744073709551616, ?_⟩
  unfold wrap64; omega

/-- Dividing back: where the product wraps round, it is found out. -/
theorem mul_back {a b : Int} (ha : -9223372036854775808 ≤ a) (ha' : a ≤ 9223372036854775807) (hb : -9223372036854775808 ≤ b) (hb' : b ≤ 9223372036854775807)
    (h0 : a ≠ 0) (hx : ¬ (a = -1 ∧ b = -9223372036854775808)) : wrap64 ((wrap64 (a * b)).tdiv a) = b ↔ inR (a * b) = true := by
  constructor
  · intro h
    apply Decidable.byContradiction; intro hr
    have hr := inR_no (by simpa using hr)
    obtain ⟨k, hk, hl, hu⟩ := wrap64_eq (a * b)
    generalize wrap64 (a * b) = p at *
    have hk0 : k ≠ 0 := by intro hk0; subst hk0; omega
    have hdm := Int.mul_tdiv_add_tmod p a
    have hm : (p.tmod a).natAbs < a.natAbs := by rw [Int.natAbs_tmod]; exact Nat.mod_lt _ (by omega)
    have hq : -9223372036854775808 ≤ p.tdiv a ∧ p.tdiv a ≤ 9223372036854775808 := by
      have h1 : (p.tdiv a).natAbs ≤ p.natAbs := by rw [Int.natAbs_tdiv]; exact Nat.div_le_self _ _
      omega
    by_cases hq2 : p.tdiv a = 9223372036854775808
    · have : b = -9223372036854775808 := by rw [hq2] at h; simp [wrap64] at h; omega
      have ha1 : a = -1 := by
        rw [hq2] at hdm
        rcases Int.lt_or_gt_of_ne h0 with hneg | hpos
        · omega
        · omega
      exact hx ⟨ha1, this⟩
    · rw [IntWalk.wrap64_in _ ⟨hq.1, by omega⟩] at h
      rw [h] at hdm
      have : p - a * b = p.tmod a := by omega
      have : - k * 18446744073709551616 = p.tmod a := by omega
      omega
  · intro h
    have := inR_bd h
    rw [IntWalk.wrap64_in _ this, Int.mul_tdiv_cancel_left _ h0, IntWalk.wrap64_in _ ⟨hb, hb'⟩]

theorem div_in {a b : Int} (ha : -9223372036854775808 ≤ a) (ha' : a ≤ 9223372036854775807) (h0 : b ≠ 0) : inR (a.tdiv b) = true ↔ ¬ (a = -9223372036854775808 ∧ b = -1) := by
  have h1 : (a.tdiv b).natAbs ≤ a.natAbs := by rw [Int.natAbs_tdiv]; exact Nat.div_le_self _ _
  constructor
  · rintro h ⟨rfl, rfl⟩; exact absurd h (by decide)
  · intro h
    by_cases h2 : a.tdiv b = 9223372036854775808
    · have hdm := Int.mul_tdiv_add_tmod a b
      have hm : (a.tmod b).natAbs < b.natAbs := by rw [Int.natAbs_tmod]; exact Nat.mod_lt _ (by omega)
      rw [h2] at hdm
      exfalso; apply h; omega
    · exact inR_of (by omega) (by omega)
end Go.Proofs.YtcecndjkfdaaaaaDoor
