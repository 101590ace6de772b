/- The statements on package arith, walked: each returns true, and leaves the world as it was. -/
import Derived.Test.YtfcjiiogigfjkaaDoorArHelp
namespace Go.Proofs.YtfcjiiogigfjkaaDoor
open Go.RowKit
set_option linter.unusedVariables false

theorem sub_neg_ok {a b : Int} : doOk 0 a (-b) = doOk 1 a b := by rw [doOk0, doOk1]; congr 1
theorem sub_neg_val {a b : Int} : doVal 0 a (-b) = doVal 1 a b := by
  unfold doVal; rw [sub_neg_ok]; simp only [if_true, if_neg (show ¬ (1 : Int) = 0 by decide)]; rfl

set_option maxHeartbeats 800000 in
theorem sums_walk (a b : Int) (w : World) (hs : Signs w) (ha : -9223372036854775808 ≤ a) (ha' : a ≤ 9223372036854775807) (hb : -9223372036854775808 ≤ b) (hb' : b ≤ 9223372036854775807) :
    Calls Tryd.prog 7 #[.int .i64 a, .int .i64 b] w fun e w' => e = .returned (.bool true) ∧ w = w' := by
  by_cases c : b = -9223372036854775808
  · by_cases h : a < 0
    · have e1 : doOk 1 a b = true := by rw [doOk1]; exact inR_of (by omega) (by omega)
      have V : doVal 1 a b = a - b := doVal1 (doOk1 ▸ e1)
      have k : (doVal 1 a b - 1 == a + 9223372036854775807) = true := by rw [V, c]; simp; omega
      have v1 : 0 ≤ doVal 1 a b := by omega
      have v2 : doVal 1 a b ≤ 9223372036854775807 := by omega
      have kb : (b == -9223372036854775808) = true := by simpa using c
      clear V c
      go_enter Tryd.func7, Tryd.ntmps7
      go_wp2_with (first | (go_at_call 28; refine (head_calls _ hs).mono ?_; rintro e w' ⟨rfl, rfl⟩) | (go_at_call 29; refine (do_calls _ _ _ _ (by assumption) (by assumption) (by assumption) (by assumption)).mono ?_; rintro e w' ⟨rfl, rfl⟩) | (go_at_call 30; refine (sum_calls _ _ _ (by assumption) (by assumption) (by assumption) (by assumption)).mono ?_; rintro e w' ⟨rfl, rfl⟩))
      go_ret
      exact ⟨rfl, rfl⟩
    · have e1 : doOk 1 a b = false := by rw [doOk1]; exact inR_not (by omega)
      have e2 : doVal 1 a b = 0 := (pair_no e1).1
      have kd : decide (a < 0) = false := by simpa using h
      have kb : (b == -9223372036854775808) = true := by simpa using c
      clear c
      go_enter Tryd.func7, Tryd.ntmps7
      go_wp2_with (first | (go_at_call 28; refine (head_calls _ hs).mono ?_; rintro e w' ⟨rfl, rfl⟩) | (go_at_call 29; refine (do_calls _ _ _ _ (by assumption) (by assumption) (by assumption) (by assumption)).mono ?_; rintro e w' ⟨rfl, rfl⟩) | (go_at_call 30; refine (sum_calls _ _ _ (by assumption) (by assumption) (by assumption) (by assumption)).mono ?_; rintro e w' ⟨rfl, rfl⟩))
      go_ret
      exact ⟨rfl, rfl⟩
  · have kb : (b == -9223372036854775808) = false := by simpa using c
    have e1 := @sub_neg_ok a b
    have e2 := @sub_neg_val a b
    have hn : -9223372036854775808 ≤ -b := by omega
    have hn' : -b ≤ 9223372036854775807 := by omega
    go_enter Tryd.func7, Tryd.ntmps7
    go_wp2_with (first | (go_at_call 28; refine (head_calls _ hs).mono ?_; rintro e w' ⟨rfl, rfl⟩) | (go_at_call 29; refine (do_calls _ _ _ _ (by assumption) (by assumption) (by assumption) (by assumption)).mono ?_; rintro e w' ⟨rfl, rfl⟩) | (go_at_call 30; refine (sum_calls _ _ _ (by omega) (by omega) (by omega) (by omega)).mono ?_; rintro e w' ⟨rfl, rfl⟩))
    go_ret
    exact ⟨rfl, rfl⟩
end Go.Proofs.YtfcjiiogigfjkaaDoor
