/- Contracts of arith.Do and its five operations: what each call returns, for all 64-bit arguments; the world is left as it was. -/
import Derived.Test.YtplckcnmpnnkgaaDoorRows
import Derived.Test.YtplckcnmpnnkgaaDoorArMath
import Derived.WalkKit
import Derived.WalkSpells
import Derived.WalkLawsBesides
import Derived.Lib.Hide
namespace Go.Proofs.YtplckcnmpnnkgaaDoor
open Go.RowKit
set_option linter.unusedVariables false

theorem ret_pair {o a b x : Int} {y : Bool} (h : x = doVal o a b ∧ y = doOk o a b) : Ending.returned (.tuple #[.int .i64 x, .bool y]) = .returned (.tuple #[.int .i64 (doVal o a b), .bool (doOk o a b)]) := by rw [h.1, h.2]
theorem is_no {o a b : Int} (h : doOk o a b = false) : 0 = doVal o a b ∧ false = doOk o a b := ⟨(pair_no h).1.symm, h.symm⟩
theorem is_yes {o a b x : Int} (h : doOk o a b = true) (hx : x = doVal o a b) : x = doVal o a b ∧ true = doOk o a b := ⟨hx, h.symm⟩

set_option maxHeartbeats 400000 in
theorem add_calls (a b : Int) (w : World) (ha : -9223372036854775808 ≤ a) (ha' : a ≤ 9223372036854775807) (hb : -9223372036854775808 ≤ b) (hb' : b ≤ 9223372036854775807) :
    Calls Tryd.prog 22 #[.int .i64 a, .int .i64 b] w fun e w' => e = .returned (.tuple #[.int .i64 (doVal 0 a b), .bool (doOk 0 a b)]) ∧ w = w' := by
  go_enter Tryd.func22, Tryd.ntmps22
  go_wp2
  · go_ret2
    exact ⟨ret_pair (is_no (doOk0 ▸ add_no ha ha' hb hb' ‹_›)), rfl⟩
  · go_ret2
    have h := add_yes ha ha' hb hb' ‹_›
    exact ⟨ret_pair (is_yes (doOk0 ▸ h) (by rw [doVal0 h, IntWalk.wrap64_in _ (inR_bd h)])), rfl⟩

set_option maxHeartbeats 400000 in
theorem sub_calls (a b : Int) (w : World) (ha : -9223372036854775808 ≤ a) (ha' : a ≤ 9223372036854775807) (hb : -9223372036854775808 ≤ b) (hb' : b ≤ 9223372036854775807) :
    Calls Tryd.prog 23 #[.int .i64 a, .int .i64 b] w fun e w' => e = .returned (.tuple #[.int .i64 (doVal 1 a b), .bool (doOk 1 a b)]) ∧ w = w' := by
  go_enter Tryd.func23, Tryd.ntmps23
  go_wp2
  · go_ret2
    exact ⟨ret_pair (is_no (doOk1 ▸ sub_no ha ha' hb hb' ‹_›)), rfl⟩
  · go_ret2
    have h := sub_yes ha ha' hb hb' ‹_›
    exact ⟨ret_pair (is_yes (doOk1 ▸ h) (by rw [doVal1 h, IntWalk.wrap64_in _ (inR_bd h)])), rfl⟩

theorem doVal3 {a b : Int} (h : doOk 3 a b = true) : doVal 3 a b = a.tdiv b := by simp [doVal, h]
theorem doVal4 {a b : Int} (h : b ≠ 0) : doVal 4 a b = a.tmod b := by simp [doVal, doOk4, h]

set_option maxHeartbeats 400000 in
theorem mul_calls (a b : Int) (w : World) (ha : -9223372036854775808 ≤ a) (ha' : a ≤ 9223372036854775807) (hb : -9223372036854775808 ≤ b) (hb' : b ≤ 9223372036854775807) :
    Calls Tryd.prog 24 #[.int .i64 a, .int .i64 b] w fun e w' => e = .returned (.tuple #[.int .i64 (doVal 2 a b), .bool (doOk 2 a b)]) ∧ w = w' := by
  by_cases c0 : a = 0
  · subst c0
    go_enter Tryd.func24, Tryd.ntmps24
    go_wp2
    go_ret2
    exact ⟨ret_pair (by simp [doVal, doOk2, inR]), rfl⟩
  · by_cases c1 : a = -1
    · subst c1
      by_cases c2 : b = -9223372036854775808
      · subst c2
        go_enter Tryd.func24, Tryd.ntmps24
        go_wp2
        go_ret2
        exact ⟨ret_pair (is_no (by rw [doOk2]; decide)), rfl⟩
      · have hlt : -9223372036854775808 < b := by omega
        have k1 : (b == -9223372036854775808) = false := by simpa using c2
        have k2 : (-b != -b) = false := by simp
        clear c0 c2
        go_enter Tryd.func24, Tryd.ntmps24
        go_wp2
        go_ret2
        have h : inR (-1 * b) = true := inR_of (by omega) (by omega)
        exact ⟨ret_pair (is_yes (doOk2 ▸ h) (by rw [doVal2 h]; omega)), rfl⟩
    · have k0 : (a == 0) = false := by simpa using c0
      have k1 : (a == -1) = false := by simpa using c1
      have hm := mul_back ha ha' hb hb' c0 (fun h => c1 h.1)
      have H := Lib.hid hm
      clear hm
      by_cases hr : inR (a * b) = true
      · have k2 : (wrap64 ((wrap64 (a * b)).tdiv a) != b) = false := by simpa using H.out.2 hr
        have R := Lib.hid hr
        clear hr
        go_enter Tryd.func24, Tryd.ntmps24
        go_wp2
        go_ret2
        exact ⟨ret_pair (is_yes (doOk2 ▸ R.out) (by rw [doVal2 R.out, IntWalk.wrap64_in _ (inR_bd R.out)])), rfl⟩
      · have k2 : (wrap64 ((wrap64 (a * b)).tdiv a) != b) = true := by
          rw [bne_iff_ne]; intro hh; exact hr (H.out.1 hh)
        have R := Lib.hid hr
        clear hr
        go_enter Tryd.func24, Tryd.ntmps24
        go_wp2
        go_ret2
        exact ⟨ret_pair (is_no (by rw [doOk2]; simpa using R.out)), rfl⟩

set_option maxHeartbeats 400000 in
theorem div_calls (a b : Int) (w : World) (ha : -9223372036854775808 ≤ a) (ha' : a ≤ 9223372036854775807) (hb : -9223372036854775808 ≤ b) (hb' : b ≤ 9223372036854775807) :
    Calls Tryd.prog 25 #[.int .i64 a, .int .i64 b] w fun e w' => e = .returned (.tuple #[.int .i64 (doVal 3 a b), .bool (doOk 3 a b)]) ∧ w = w' := by
  by_cases c0 : b = 0
  · subst c0
    go_enter Tryd.func25, Tryd.ntmps25
    go_wp2
    go_ret2
    exact ⟨ret_pair (is_no (by simp [doOk3])), rfl⟩
  · have D := Lib.hid (div_in ha ha' c0)
    have k0 : (b == 0) = false := by simpa using c0
    by_cases c1 : a = -9223372036854775808 ∧ b = -1
    · obtain ⟨rfl, rfl⟩ := c1
      clear D
      go_enter Tryd.func25, Tryd.ntmps25
      go_wp2
      go_ret2
      exact ⟨ret_pair (is_no (by rw [doOk3]; decide)), rfl⟩
    · have C := Lib.hid (D.out.2 c1)
      have C3 : doOk 3 a b = true := by rw [doOk3, C.out]; simp [c0]
      have C4 := Lib.hid C3
      have k3 : wrap64 (a.tdiv b) = a.tdiv b := IntWalk.wrap64_in _ (inR_bd C.out)
      have C5 := Lib.hid k3
      clear C3 k3
      by_cases c2 : a = -9223372036854775808
      · have k1 : (b == -1) = false := by simp [c2] at c1; simpa using c1
        have k2 : (a == -9223372036854775808) = true := by simpa using c2
        clear c1 c2
        go_enter Tryd.func25, Tryd.ntmps25
        go_wp2
        go_ret2
        exact ⟨ret_pair (is_yes C4.out (by rw [doVal3 C4.out, C5.out])), rfl⟩
      · have k1 : (a == -9223372036854775808) = false := by simpa using c2
        clear c1
        go_enter Tryd.func25, Tryd.ntmps25
        go_wp2
        go_ret2
        exact ⟨ret_pair (is_yes C4.out (by rw [doVal3 C4.out, C5.out])), rfl⟩

set_option maxHeartbeats 400000 in
theorem mod_calls (a b : Int) (w : World) (ha : -9223372036854775808 ≤ a) (ha' : a ≤ 9223372036854775807) (hb : -9223372036854775808 ≤ b) (hb' : b ≤ 9223372036854775807) :
    Calls Tryd.prog 26 #[.int .i64 a, .int .i64 b] w fun e w' => e = .returned (.tuple #[.int .i64 (doVal 4 a b), .bool (doOk 4 a b)]) ∧ w = w' := by
  by_cases c0 : b = 0
  · subst c0
    go_enter Tryd.func26, Tryd.ntmps26
    go_wp2
    go_ret2
    exact ⟨ret_pair (is_no (by simp [doOk4])), rfl⟩
  · have k0 : (b == 0) = false := by simpa using c0
    go_enter Tryd.func26, Tryd.ntmps26
    go_wp2
    go_ret2
    exact ⟨ret_pair (is_yes (by rw [doOk4]; simpa using c0) (by rw [doVal4 c0])), rfl⟩

theorem is_other {o a b : Int} (h0 : o ≠ 0) (h1 : o ≠ 1) (h2 : o ≠ 2) (h3 : o ≠ 3) (h4 : o ≠ 4) : doOk o a b = false := by simp [doOk, h0, h1, h2, h3, h4]

set_option maxHeartbeats 800000 in
theorem do_calls (o a b : Int) (w : World) (ha : -9223372036854775808 ≤ a) (ha' : a ≤ 9223372036854775807) (hb : -9223372036854775808 ≤ b) (hb' : b ≤ 9223372036854775807) :
    Calls Tryd.prog 19 #[.int .i64 o, .int .i64 a, .int .i64 b] w fun e w' => e = .returned (.tuple #[.int .i64 (doVal o a b), .bool (doOk o a b)]) ∧ w = w' := by
  by_cases c0 : o = 0
  · subst c0
    go_enter Tryd.func19, Tryd.ntmps19
    go_wp2_with (first | (go_at_call 22; refine (add_calls _ _ _ ha ha' hb hb').mono ?_; rintro e w' ⟨rfl, rfl⟩))
    go_ret2
    exact ⟨rfl, rfl⟩
  by_cases c1 : o = 1
  · subst c1
    go_enter Tryd.func19, Tryd.ntmps19
    go_wp2_with (first | (go_at_call 23; refine (sub_calls _ _ _ ha ha' hb hb').mono ?_; rintro e w' ⟨rfl, rfl⟩))
    go_ret2
    exact ⟨rfl, rfl⟩
  by_cases c2 : o = 2
  · subst c2
    go_enter Tryd.func19, Tryd.ntmps19
    go_wp2_with (first | (go_at_call 24; refine (mul_calls _ _ _ ha ha' hb hb').mono ?_; rintro e w' ⟨rfl, rfl⟩))
    go_ret2
    exact ⟨rfl, rfl⟩
  by_cases c3 : o = 3
  · subst c3
    go_enter Tryd.func19, Tryd.ntmps19
    go_wp2_with (first | (go_at_call 25; refine (div_calls _ _ _ ha ha' hb hb').mono ?_; rintro e w' ⟨rfl, rfl⟩))
    go_ret2
    exact ⟨rfl, rfl⟩
  by_cases c4 : o = 4
  · subst c4
    go_enter Tryd.func19, Tryd.ntmps19
    go_wp2_with (first | (go_at_call 26; refine (mod_calls _ _ _ ha ha' hb hb').mono ?_; rintro e w' ⟨rfl, rfl⟩))
    go_ret2
    exact ⟨rfl, rfl⟩
  have k0 : (o == 0) = false := by simpa using c0
  have k1 : (o == 1) = false := by simpa using c1
  have k2 : (o == 2) = false := by simpa using c2
  have k3 : (o == 3) = false := by simpa using c3
  have k4 : (o == 4) = false := by simpa using c4
  have N := Lib.hid (is_other (a := a) (b := b) c0 c1 c2 c3 c4)
  clear c0 c1 c2 c3 c4
  go_enter Tryd.func19, Tryd.ntmps19
  go_wp2_with fail
  go_ret2
  exact ⟨ret_pair (is_no N.out), rfl⟩

end Go.Proofs.YtplckcnmpnnkgaaDoor
