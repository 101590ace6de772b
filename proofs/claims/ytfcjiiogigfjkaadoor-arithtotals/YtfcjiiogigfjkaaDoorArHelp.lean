/- Contracts of the helper functions of the statements on package arith: size, fit, sum. -/
import Derived.Test.YtfcjiiogigfjkaaDoorAr
namespace Go.Proofs.YtfcjiiogigfjkaaDoor
open Go.RowKit
set_option linter.unusedVariables false

theorem ret_int {k : IntKind} {a b : Int} (h : a = b) : Ending.returned (.int k a) = .returned (.int k b) := by rw [h]
theorem ret_two {a b : Int} {x y : Bool} (h : a = b) (hx : x = y) : Ending.returned (.tuple #[.int .i64 a, .bool x]) = .returned (.tuple #[.int .i64 b, .bool y]) := by rw [h, hx]

set_option maxHeartbeats 400000 in
theorem size_calls (a : Int) (w : World) (ha : -9223372036854775808 ≤ a) (ha' : a ≤ 9223372036854775807) :
    Calls Tryd.prog 32 #[.int .i64 a] w fun e w' => e = .returned (.int .u64 (a.natAbs : Int)) ∧ w = w' := by
  by_cases h : a < 0
  · go_enter Tryd.func32, Tryd.ntmps32
    go_wp2
    go_ret
    exact ⟨ret_int (by omega), rfl⟩
  · go_enter Tryd.func32, Tryd.ntmps32
    go_wp2
    go_ret
    exact ⟨ret_int (by omega), rfl⟩

theorem neg_back (n : Int) (h0 : 0 ≤ n) (h : n ≤ 9223372036854775808) : wrap64 (IntKind.u64.wrap (-n)) = -n := by
  rw [IntKind.wrap_u64]; unfold wrap64; omega

def fitOk (neg : Bool) (n : Int) : Bool := inR (if neg = true then -n else n)
def fitVal (neg : Bool) (n : Int) : Int := if fitOk neg n = true then (if neg = true then -n else n) else 0

set_option maxHeartbeats 400000 in
theorem fit_calls (neg : Bool) (n : Int) (w : World) (hn : 0 ≤ n) (hn' : n ≤ 18446744073709551615) :
    Calls Tryd.prog 33 #[.bool neg, .int .u64 n] w fun e w' => e = .returned (.tuple #[.int .i64 (fitVal neg n), .bool (fitOk neg n)]) ∧ w = w' := by
  cases neg
  · by_cases h : 9223372036854775807 < n
    · have H := Lib.hid (show fitOk false n = false from inR_not (by right; simpa using h))
      go_enter Tryd.func33, Tryd.ntmps33
      go_wp2
      go_ret2
      exact ⟨ret_two (by simp [fitVal, H.out]) H.out.symm, rfl⟩
    · have H := Lib.hid (show fitOk false n = true from inR_of (by simp; omega) (by simp; omega))
      go_enter Tryd.func33, Tryd.ntmps33
      go_wp2
      go_ret2
      exact ⟨ret_two (by simp [fitVal, H.out]) H.out.symm, rfl⟩
  · by_cases h : 9223372036854775808 < n
    · have H := Lib.hid (show fitOk true n = false from inR_not (by left; simp; omega))
      go_enter Tryd.func33, Tryd.ntmps33
      go_wp2
      go_ret2
      exact ⟨ret_two (by simp [fitVal, H.out]) H.out.symm, rfl⟩
    · have H := Lib.hid (show fitOk true n = true from inR_of (by simp; omega) (by simp; omega))
      go_enter Tryd.func33, Tryd.ntmps33
      go_wp2
      go_ret2
      exact ⟨ret_two (by rw [neg_back n hn h]; simp [fitVal, H.out]) H.out.symm, rfl⟩

/-- bits.Add64, without a carry coming in. -/
theorem add64_run (x y : Int) (hx : 0 ≤ x) (hy : 0 ≤ y) (w : World) :
    (callFunc 50 #[.int .u64 x, .int .u64 y, .int .u64 0]).run Tryd.prog w =
      .ok (.value (.tuple #[.int .u64 ((x + y) % 18446744073709551616), .int .u64 ((x + y) / 18446744073709551616)])) w := by
  rw [run_callFunc_extern Tryd.func50 (by kernel_rfl) (by kernel_rfl) (by kernel_rfl) (e := add64Entry) (by kernel_rfl), run_add64 x y 0 hx hy (by omega) (by omega), Int.add_zero]
  rfl

theorem add64_under (x y : Int) (hx : 0 ≤ x) (hy : 0 ≤ y) (h : x + y < 18446744073709551616) (w : World) :
    (callFunc 50 #[.int .u64 x, .int .u64 y, .int .u64 0]).run Tryd.prog w = .ok (.value (.tuple #[.int .u64 (x + y), .int .u64 0])) w := by
  rw [add64_run x y hx hy, Int.emod_eq_of_lt (by omega) h, Int.ediv_eq_zero_of_lt (by omega) h]
theorem add64_over (x y : Int) (hx : 0 ≤ x) (hy : 0 ≤ y) (h : 18446744073709551616 ≤ x + y) (h' : x + y < 36893488147419103232) (w : World) :
    (callFunc 50 #[.int .u64 x, .int .u64 y, .int .u64 0]).run Tryd.prog w = .ok (.value (.tuple #[.int .u64 ((x + y) % 18446744073709551616), .int .u64 1])) w := by
  rw [add64_run x y hx hy, show (x + y) / 18446744073709551616 = 1 by omega]

theorem fit_nat {a b : Int} (ha : -9223372036854775808 ≤ a) (ha' : a ≤ 9223372036854775807) (hb : -9223372036854775808 ≤ b) (hb' : b ≤ 9223372036854775807) (hs : (a < 0) = (b < 0)) :
    fitOk (decide (a < 0)) ((a.natAbs : Int) + b.natAbs) = doOk 0 a b := by
  rw [doOk0]; unfold fitOk
  congr 1
  by_cases h : a < 0
  · have : b < 0 := by rw [← hs]; exact h
    simp [h]; omega
  · have : ¬ b < 0 := by rw [← hs]; exact h
    simp [h]; omega
theorem fitV_nat {a b : Int} (ha : -9223372036854775808 ≤ a) (ha' : a ≤ 9223372036854775807) (hb : -9223372036854775808 ≤ b) (hb' : b ≤ 9223372036854775807) (hs : (a < 0) = (b < 0)) :
    fitVal (decide (a < 0)) ((a.natAbs : Int) + b.natAbs) = doVal 0 a b := by
  unfold fitVal
  rw [fit_nat ha ha' hb hb' hs]
  unfold doVal
  by_cases hd : doOk 0 a b = true
  · rw [if_pos hd, if_pos hd, if_pos rfl]
    by_cases h : a < 0
    · have : b < 0 := by rw [← hs]; exact h
      simp [h]; omega
    · have : ¬ b < 0 := by rw [← hs]; exact h
      simp [h]; omega
  · rw [if_neg hd, if_neg hd]

set_option maxHeartbeats 400000 in
theorem sum_calls (a b : Int) (w : World) (ha : -9223372036854775808 ≤ a) (ha' : a ≤ 9223372036854775807) (hb : -9223372036854775808 ≤ b) (hb' : b ≤ 9223372036854775807) :
    Calls Tryd.prog 30 #[.int .i64 a, .int .i64 b] w fun e w' => e = .returned (.tuple #[.int .i64 (doVal 0 a b), .bool (doOk 0 a b)]) ∧ w = w' := by
  by_cases hs : (a < 0) = (b < 0)
  · have F := Lib.hid (fit_nat ha ha' hb hb' hs)
    have V := Lib.hid (fitV_nat ha ha' hb hb' hs)
    have k0 : (!decide (a < 0) == decide (b < 0)) = false := by simp only [hs]; simp
    have hx : (0 : Int) ≤ (a.natAbs : Int) := by omega
    have hy : (0 : Int) ≤ (b.natAbs : Int) := by omega
    clear hs
    by_cases hc : 18446744073709551616 ≤ (a.natAbs : Int) + b.natAbs
    · have O : Hid (doOk 0 a b = false) := by rw [← F.out]; exact inR_not (by by_cases h : a < 0 <;> simp [h] <;> omega)
      have h64 := fun w => add64_over (a.natAbs : Int) (b.natAbs : Int) hx hy hc (by omega) w
      clear F V hc hx hy
      go_enter Tryd.func30, Tryd.ntmps30
      go_wp2_with (first | (go_at_call 32; refine (size_calls _ _ (by assumption) (by assumption)).mono ?_; rintro e w' ⟨rfl, rfl⟩))
      go_ret2
      exact ⟨ret_pair (is_no O.out), rfl⟩
    · have h64 := fun w => add64_under (a.natAbs : Int) (b.natAbs : Int) hx hy (by omega) w
      have hz : 0 ≤ (a.natAbs : Int) + b.natAbs := by omega
      have hz' : (a.natAbs : Int) + b.natAbs ≤ 18446744073709551615 := by omega
      clear hc hx hy
      go_enter Tryd.func30, Tryd.ntmps30
      go_wp2_with (first | (go_at_call 32; refine (size_calls _ _ (by assumption) (by assumption)).mono ?_; rintro e w' ⟨rfl, rfl⟩) | (go_at_call 33; refine (fit_calls _ _ _ (by assumption) (by assumption)).mono ?_; rintro e w' ⟨rfl, rfl⟩))
      go_ret2
      exact ⟨ret_two V.out F.out, rfl⟩
  · have k0 : (!decide (a < 0) == decide (b < 0)) = true := by
      simp only [eq_iff_iff] at hs; simpa using hs
    have hin : -9223372036854775808 ≤ a + b ∧ a + b ≤ 9223372036854775807 := by
      simp only [eq_iff_iff] at hs; omega
    clear hs
    go_enter Tryd.func30, Tryd.ntmps30
    go_wp2_with fail
    go_ret2
    have h := inR_of hin.1 hin.2
    exact ⟨ret_pair (is_yes (doOk0 ▸ h) (by rw [doVal0 h])), rfl⟩
end Go.Proofs.YtfcjiiogigfjkaaDoor
