/- The statement ArithParts, walked. -/
import Derived.Test.YtfcjiiogigfjkaaDoorArHelp
import Derived.Deep.QuietTactic
import Derived.BigQuiet
namespace Go.Proofs.YtfcjiiogigfjkaaDoor
open Go.RowKit
set_option linter.unusedVariables false

set_option maxHeartbeats 800000 in
theorem parts_zero (a : Int) (w : World) (hs : Signs w) (ha : -9223372036854775808 ≤ a) (ha' : a ≤ 9223372036854775807) :
    Calls Tryd.prog 9 #[.int .i64 a, .int .i64 0] w fun e w' => e = .returned (.bool true) ∧ w = w' := by
  have e1 : doOk 3 a 0 = false := by simp [doOk3]
  have e2 : doVal 3 a 0 = 0 := (pair_no e1).1
  have e3 : doOk 4 a 0 = false := by simp [doOk4]
  have e4 : doVal 4 a 0 = 0 := (pair_no e3).1
  go_enter Tryd.func9, Tryd.ntmps9
  go_wp2_with (first | (go_at_call 28; refine (head_calls _ hs).mono ?_; rintro e w' ⟨rfl, rfl⟩) | (go_at_call 29; refine (do_calls _ _ _ _ (by assumption) (by assumption) (by decide) (by decide)).mono ?_; rintro e w' ⟨rfl, rfl⟩))
  go_ret
  exact ⟨rfl, rfl⟩

theorem quiet_mine {P : Program} {f : FuncId} {args : Array Value} {w : World} {n : Nat} {v : Value}
    (h : Calls P f args (w.drewN n) fun e w' => e = .returned v ∧ w.drewN n = w') : Calls P f args (w.drewN n) fun e w'' => e = .returned v ∧ ∃ m, w'' = w.drewN m :=
  h.mono fun _ _ ⟨he, hm⟩ => ⟨he, n, hm.symm⟩

/-- A number's size, behind a name. -/
def sz (a : Int) : Int := (a.natAbs : Int)
theorem sz_calls (a : Int) (w : World) (ha : -9223372036854775808 ≤ a) (ha' : a ≤ 9223372036854775807) :
    Calls Tryd.prog 32 #[.int .i64 a] w fun e w' => e = .returned (.int .u64 (sz a)) ∧ w = w' := size_calls a w ha ha'

set_option maxHeartbeats 800000 in
theorem parts_some (a b : Int) (neg : Bool) (w : World) (hs : Signs w) (ha : -9223372036854775808 ≤ a) (ha' : a ≤ 9223372036854775807) (hb : -9223372036854775808 ≤ b) (hb' : b ≤ 9223372036854775807) (hb0 : (b == 0) = false)
    (e3 : doOk 4 a b = true) (hr : decide (sz b ≤ sz (doVal 4 a b)) = false) (hr0 : (doVal 4 a b != 0) = false ∨ ((doVal 4 a b != 0) = true ∧ (!decide (doVal 4 a b < 0) == decide (a < 0)) = false))
    (hsa : 0 ≤ sz a) (hsb : 1 ≤ sz b) (hsa' : sz a ≤ 9223372036854775808) (hsb' : sz b ≤ 9223372036854775808) (hq : 0 ≤ sz a / sz b) (hq' : sz a / sz b ≤ 18446744073709551615) (hm : (sz (doVal 4 a b) == sz a % sz b) = true)
    (hneg : ((!decide (a < 0) == decide (b < 0)) = false ∧ neg = false) ∨ ((!decide (a < 0) == decide (b < 0)) = true ∧ (sz a / sz b != 0) = neg))
    (f1 : fitOk neg (sz a / sz b) = doOk 3 a b) (f2 : fitVal neg (sz a / sz b) = doVal 3 a b) :
    Calls Tryd.prog 9 #[.int .i64 a, .int .i64 b] w fun e w' => e = .returned (.bool true) ∧ ∃ n, w' = w.drewN n := by
  obtain ⟨b1, b2⟩ := doVal_bd 4 a b ha ha'
  have hbz : ¬ sz b = 0 := by omega
  have hc : ((!decide (a < 0) == decide (b < 0)) = false ∧ neg = false) ∨ ((!decide (a < 0) == decide (b < 0)) = true ∧ (sz a / sz b != 0) = true ∧ neg = true) ∨ ((!decide (a < 0) == decide (b < 0)) = true ∧ (sz a / sz b != 0) = false ∧ neg = false) := by
    rcases hneg with h | ⟨h, h'⟩
    · exact .inl h
    · cases neg
      · exact .inr (.inr ⟨h, h', rfl⟩)
      · exact .inr (.inl ⟨h, h', rfl⟩)
  clear hneg
  rcases hr0 with hr1 | ⟨hr1, hr2⟩ <;> rcases hc with ⟨k0, rfl⟩ | ⟨k0, k1, rfl⟩ | ⟨k0, k1, rfl⟩
  all_goals
    go_enter Tryd.func9, Tryd.ntmps9
    go_wp2_with (first | (go_at_call 28; refine (head_calls _ hs).mono ?_; rintro e w' ⟨rfl, rfl⟩) | (go_at_call 29; refine (do_calls _ _ _ _ (by assumption) (by assumption) (by assumption) (by assumption)).mono ?_; rintro e w' ⟨rfl, rfl⟩) | (go_at_call 32; refine (sz_calls _ _ (by assumption) (by assumption)).mono ?_; rintro e w' ⟨rfl, rfl⟩))
    go_quiet (first | (go_at_call 32; exact quiet_mine (sz_calls _ _ (by assumption) (by assumption))) | (go_at_call 33; exact quiet_mine (fit_calls _ _ _ (by assumption) (by assumption))))
    go_wp2_with (first | (go_at_call 32; refine (sz_calls _ _ (by assumption) (by assumption)).mono ?_; rintro e w' ⟨rfl, rfl⟩))
    go_ret
    exact ⟨rfl, _, rfl⟩

theorem tmod_sign {a b : Int} (h : a.tmod b ≠ 0) : (!decide (a.tmod b < 0) == decide (a < 0)) = false := by
  rcases Int.lt_or_le a 0 with h0 | h0
  · have := Int.tmod_nonneg b (a := -a) (by omega)
    rw [Int.neg_tmod] at this
    have h1 : a.tmod b < 0 := by omega
    simp [h0, h1]
  · have := Int.tmod_nonneg b h0
    have h1 : ¬ a.tmod b < 0 := by omega
    have h2 : ¬ a < 0 := by omega
    simp [h1, h2]

theorem div_abs {a b : Int} (hb : b ≠ 0) : a.tdiv b = if ((a < 0) ↔ (b < 0)) then sz a / sz b else -(sz a / sz b) := by
  unfold sz
  by_cases ha : a < 0 <;> by_cases hb : b < 0
  · rw [if_pos (by simp [ha, hb]), show (a.natAbs : Int) = -a by omega, show (b.natAbs : Int) = -b by omega, ← Int.tdiv_eq_ediv_of_nonneg (by omega), Int.tdiv_neg, Int.neg_tdiv, Int.neg_neg]
  · rw [if_neg (by simp [ha, hb]), show (a.natAbs : Int) = -a by omega, show (b.natAbs : Int) = b by omega, ← Int.tdiv_eq_ediv_of_nonneg (by omega), Int.neg_tdiv, Int.neg_neg]
  · rw [if_neg (by simp [ha, hb]), show (a.natAbs : Int) = a by omega, show (b.natAbs : Int) = -b by omega, ← Int.tdiv_eq_ediv_of_nonneg (by omega), Int.tdiv_neg, Int.neg_neg]
  · rw [if_pos (by simp [ha, hb]), show (a.natAbs : Int) = a by omega, show (b.natAbs : Int) = b by omega, ← Int.tdiv_eq_ediv_of_nonneg (by omega)]

theorem fit_div {a b : Int} {neg : Bool} {n : Int} (hb : b ≠ 0) (h : a.tdiv b = if neg = true then -n else n) : fitOk neg n = doOk 3 a b ∧ fitVal neg n = doVal 3 a b := by
  have e : fitOk neg n = doOk 3 a b := by rw [doOk3, h]; simp [hb, fitOk]
  refine ⟨e, ?_⟩
  unfold fitVal; rw [e]
  by_cases hd : doOk 3 a b = true
  · rw [if_pos hd, doVal3 hd, h]
  · rw [if_neg hd, (pair_no (Bool.eq_false_iff.2 hd)).1]

theorem parts_walk (a b : Int) (w : World) (hs : Signs w) (ha : -9223372036854775808 ≤ a) (ha' : a ≤ 9223372036854775807) (hb : -9223372036854775808 ≤ b) (hb' : b ≤ 9223372036854775807) :
    Calls Tryd.prog 9 #[.int .i64 a, .int .i64 b] w fun e w' => e = .returned (.bool true) ∧ ∃ n, w' = w.drewN n := by
  by_cases h0 : b = 0
  · subst h0
    exact (parts_zero a w hs ha ha').mono fun e w' ⟨he, hw⟩ => ⟨he, 0, hw.symm⟩
  · have e3 : doOk 4 a b = true := by rw [doOk4]; simpa using h0
    have hv := doVal4 (a := a) h0
    have hd := div_abs (a := a) h0
    have hna : (a.tmod b).natAbs = a.natAbs % b.natAbs := Int.natAbs_tmod a b
    have hlt : a.natAbs % b.natAbs < b.natAbs := Nat.mod_lt _ (by omega)
    have hsa : 0 ≤ sz a := by unfold sz; omega
    have hsb : 1 ≤ sz b := by unfold sz; omega
    have hsa' : sz a ≤ 9223372036854775808 := by unfold sz; omega
    have hsb' : sz b ≤ 9223372036854775808 := by unfold sz; omega
    have hq : 0 ≤ sz a / sz b := Int.ediv_nonneg hsa (by omega)
    have hq' : sz a / sz b ≤ 18446744073709551615 := by have := Int.ediv_le_self (sz b) hsa; omega
    have hr : decide (sz b ≤ sz (doVal 4 a b)) = false := by rw [hv]; simp [sz]; omega
    have hm : (sz (doVal 4 a b) == sz a % sz b) = true := by rw [hv]; simp only [sz, hna]; simp
    have hr0 : (doVal 4 a b != 0) = false ∨ ((doVal 4 a b != 0) = true ∧ (!decide (doVal 4 a b < 0) == decide (a < 0)) = false) := by
      rw [hv]
      by_cases hz : a.tmod b = 0
      · left; simp [hz]
      · right; exact ⟨by simpa using hz, tmod_sign hz⟩
    by_cases hsg : (a < 0) ↔ (b < 0)
    · rw [if_pos hsg] at hd
      obtain ⟨f1, f2⟩ := fit_div (neg := false) h0 (by rw [hd]; rfl)
      exact parts_some a b false w hs ha ha' hb hb' (by simpa using h0) e3 hr hr0 hsa hsb hsa' hsb' hq hq' hm (.inl ⟨by simp only [hsg]; simp, rfl⟩) f1 f2
    · rw [if_neg hsg] at hd
      by_cases hz : sz a / sz b = 0
      · obtain ⟨f1, f2⟩ := fit_div (neg := false) (n := sz a / sz b) h0 (by rw [hd, hz]; rfl)
        exact parts_some a b false w hs ha ha' hb hb' (by simpa using h0) e3 hr hr0 hsa hsb hsa' hsb' hq hq' hm (.inr ⟨by simpa using hsg, by simp [hz]⟩) f1 f2
      · obtain ⟨f1, f2⟩ := fit_div (neg := true) (n := sz a / sz b) h0 (by rw [hd]; rfl)
        exact parts_some a b true w hs ha ha' hb hb' (by simpa using h0) e3 hr hr0 hsa hsb hsa' hsb' hq hq' hm (.inr ⟨by simpa using hsg, by simpa using hz⟩) f1 f2
end Go.Proofs.YtfcjiiogigfjkaaDoor
