/- The statements ArithBounds, ArithLaws and ArithBacks, walked. -/
import Derived.Test.YtfcjiiogigfjkaaDoorArHelp
namespace Go.Proofs.YtfcjiiogigfjkaaDoor
open Go.RowKit
set_option linter.unusedVariables false

theorem val_or (o a b : Int) : (doOk o a b || doVal o a b == 0) = true := by
  by_cases h : doOk o a b = true
  · simp [h]
  · simp [(pair_no (Bool.eq_false_iff.2 h)).1]

set_option maxHeartbeats 800000 in
theorem bounds_walk (n a b : Int) (w : World) (hs : Signs w) (ha : -9223372036854775808 ≤ a) (ha' : a ≤ 9223372036854775807) (hb : -9223372036854775808 ≤ b) (hb' : b ≤ 9223372036854775807) :
    Calls Tryd.prog 10 #[.int .i64 n, .int .i64 a, .int .i64 b] w fun e w' => e = .returned (.bool true) ∧ Below w.heap.size w w' := by
  have hpos : 2 < w.heap.size := by
    have := hs.c0
    rcases Nat.lt_or_ge 2 w.heap.size with h | h
    · exact h
    · simp [World.cell?, h] at this
  have hs1 : ∀ o, Signs (w.alloc o) := fun o => by
    obtain ⟨c0, c1, c2, c3, c4⟩ := hs
    exact ⟨by rw [World.cell?_alloc_lt _ _ _ hpos]; exact c0, by rw [World.cell?_alloc_lt _ _ _ hpos]; exact c1, by rw [World.cell?_alloc_lt _ _ _ hpos]; exact c2, by rw [World.cell?_alloc_lt _ _ _ hpos]; exact c3, by rw [World.cell?_alloc_lt _ _ _ hpos]; exact c4⟩
  by_cases hin : 0 ≤ n ∧ n < 5
  · have e0 : n = 0 ∨ n = 1 ∨ n = 2 ∨ n = 3 ∨ n = 4 := by omega
    clear hin
    have s0 : signOf 0 = ⟨#[43]⟩ := by decide
    have s1 : signOf 1 = ⟨#[45]⟩ := by decide
    have s2 : signOf 2 = ⟨#[42]⟩ := by decide
    have s3 : signOf 3 = ⟨#[47]⟩ := by decide
    have s4 : signOf 4 = ⟨#[37]⟩ := by decide
    by_cases ok : doOk n a b = true
    · rcases e0 with rfl | rfl | rfl | rfl | rfl
      all_goals
        go_enter Tryd.func10, Tryd.ntmps10
        go_wp2_with (first | (go_at_call 28; refine (head_calls _ hs).mono ?_; rintro e w' ⟨rfl, rfl⟩) | (go_at_call 29; refine (do_calls _ _ _ _ (by assumption) (by assumption) (by assumption) (by assumption)).mono ?_; rintro e w' ⟨rfl, rfl⟩) | (go_at_call 34; refine (sign_calls _ _ (hs1 _)).mono ?_; rintro e w' ⟨rfl, rfl⟩))
        go_ret
        exact ⟨rfl, (Below.refl _ _).alloc (Nat.le_refl _) _⟩
    · have ok' : doOk n a b = false := by simpa using ok
      have v0 := (pair_no ok').1
      clear ok
      rcases e0 with rfl | rfl | rfl | rfl | rfl
      all_goals
        go_enter Tryd.func10, Tryd.ntmps10
        go_wp2_with (first | (go_at_call 28; refine (head_calls _ hs).mono ?_; rintro e w' ⟨rfl, rfl⟩) | (go_at_call 29; refine (do_calls _ _ _ _ (by assumption) (by assumption) (by assumption) (by assumption)).mono ?_; rintro e w' ⟨rfl, rfl⟩) | (go_at_call 34; refine (sign_calls _ _ (hs1 _)).mono ?_; rintro e w' ⟨rfl, rfl⟩))
        go_ret
        exact ⟨rfl, (Below.refl _ _).alloc (Nat.le_refl _) _⟩
  · have ok' : doOk n a b = false := is_other (by omega) (by omega) (by omega) (by omega) (by omega)
    have v0 := (pair_no ok').1
    have sg : signOf n = ⟨#[]⟩ := by rw [signOf, if_neg (by omega), if_neg (by omega), if_neg (by omega), if_neg (by omega), if_neg (by omega)]
    by_cases h0 : n < 0
    · clear hin
      go_enter Tryd.func10, Tryd.ntmps10
      go_wp2_with (first | (go_at_call 28; refine (head_calls _ hs).mono ?_; rintro e w' ⟨rfl, rfl⟩) | (go_at_call 29; refine (do_calls _ _ _ _ (by assumption) (by assumption) (by assumption) (by assumption)).mono ?_; rintro e w' ⟨rfl, rfl⟩) | (go_at_call 34; refine (sign_calls _ _ hs).mono ?_; rintro e w' ⟨rfl, rfl⟩))
      go_ret
      exact ⟨rfl, Below.refl _ _⟩
    · have h5 : 5 ≤ n := by omega
      clear hin
      go_enter Tryd.func10, Tryd.ntmps10
      go_wp2_with (first | (go_at_call 28; refine (head_calls _ hs).mono ?_; rintro e w' ⟨rfl, rfl⟩) | (go_at_call 29; refine (do_calls _ _ _ _ (by assumption) (by assumption) (by assumption) (by assumption)).mono ?_; rintro e w' ⟨rfl, rfl⟩) | (go_at_call 34; refine (sign_calls _ _ hs).mono ?_; rintro e w' ⟨rfl, rfl⟩))
      go_ret
      exact ⟨rfl, Below.refl _ _⟩

theorem distrib {a b c : Int} (p : doOk 2 a b = true) (q : doOk 2 a c = true) (r : doOk 0 b c = true) (s : doOk 2 a (doVal 0 b c) = true) :
    doOk 0 (doVal 2 a b) (doVal 2 a c) = true ∧ (doVal 2 a (doVal 0 b c) == doVal 0 (doVal 2 a b) (doVal 2 a c)) = true := by
  rw [doOk2] at p q
  rw [doOk0] at r
  rw [doVal2 p, doVal2 q]
  rw [doVal0 r] at s ⊢
  rw [doOk2] at s
  have e : a * (b + c) = a * b + a * c := Int.mul_add a b c
  have t : inR (a * b + a * c) = true := by rw [← e]; exact s
  rw [doOk0, doVal2 s, doVal0 t, e]
  exact ⟨t, by simp⟩

theorem add_comm_ok (a b : Int) : doOk 0 b a = doOk 0 a b := by rw [doOk0, doOk0, Int.add_comm]
theorem add_comm_val (a b : Int) : doVal 0 b a = doVal 0 a b := by unfold doVal; rw [add_comm_ok, Int.add_comm]; simp

set_option maxHeartbeats 800000 in
theorem laws_walk (a b c : Int) (w : World) (hs : Signs w) (ha : -9223372036854775808 ≤ a) (ha' : a ≤ 9223372036854775807) (hb : -9223372036854775808 ≤ b) (hb' : b ≤ 9223372036854775807) (hc : -9223372036854775808 ≤ c) (hc' : c ≤ 9223372036854775807) :
    Calls Tryd.prog 12 #[.int .i64 a, .int .i64 b, .int .i64 c] w fun e w' => e = .returned (.bool true) ∧ w = w' := by
  have g1 := add_comm_ok a b
  have g2 := add_comm_val a b
  obtain ⟨b1, b2⟩ := doVal_bd 0 b c hb hb'
  obtain ⟨b3, b4⟩ := doVal_bd 2 a b ha ha'
  obtain ⟨b5, b6⟩ := doVal_bd 2 a c ha ha'
  by_cases p : doOk 2 a b = true
  · by_cases q : doOk 2 a c = true
    · by_cases r : doOk 0 b c = true
      · by_cases s : doOk 2 a (doVal 0 b c) = true
        · obtain ⟨d1, d2⟩ := distrib p q r s
          go_enter Tryd.func12, Tryd.ntmps12
          go_wp2_with (first | (go_at_call 28; refine (head_calls _ hs).mono ?_; rintro e w' ⟨rfl, rfl⟩) | (go_at_call 29; refine (do_calls _ _ _ _ (by assumption) (by assumption) (by assumption) (by assumption)).mono ?_; rintro e w' ⟨rfl, rfl⟩))
          go_ret
          exact ⟨rfl, rfl⟩
        · have s' : doOk 2 a (doVal 0 b c) = false := by simpa using s
          clear s
          go_enter Tryd.func12, Tryd.ntmps12
          go_wp2_with (first | (go_at_call 28; refine (head_calls _ hs).mono ?_; rintro e w' ⟨rfl, rfl⟩) | (go_at_call 29; refine (do_calls _ _ _ _ (by assumption) (by assumption) (by assumption) (by assumption)).mono ?_; rintro e w' ⟨rfl, rfl⟩))
          go_ret
          exact ⟨rfl, rfl⟩
      · have s' : doOk 0 b c = false := by simpa using r
        clear r
        go_enter Tryd.func12, Tryd.ntmps12
        go_wp2_with (first | (go_at_call 28; refine (head_calls _ hs).mono ?_; rintro e w' ⟨rfl, rfl⟩) | (go_at_call 29; refine (do_calls _ _ _ _ (by assumption) (by assumption) (by assumption) (by assumption)).mono ?_; rintro e w' ⟨rfl, rfl⟩))
        go_ret
        exact ⟨rfl, rfl⟩
    · have s' : doOk 2 a c = false := by simpa using q
      clear q
      go_enter Tryd.func12, Tryd.ntmps12
      go_wp2_with (first | (go_at_call 28; refine (head_calls _ hs).mono ?_; rintro e w' ⟨rfl, rfl⟩) | (go_at_call 29; refine (do_calls _ _ _ _ (by assumption) (by assumption) (by assumption) (by assumption)).mono ?_; rintro e w' ⟨rfl, rfl⟩))
      go_ret
      exact ⟨rfl, rfl⟩
  · have s' : doOk 2 a b = false := by simpa using p
    clear p
    go_enter Tryd.func12, Tryd.ntmps12
    go_wp2_with (first | (go_at_call 28; refine (head_calls _ hs).mono ?_; rintro e w' ⟨rfl, rfl⟩) | (go_at_call 29; refine (do_calls _ _ _ _ (by assumption) (by assumption) (by assumption) (by assumption)).mono ?_; rintro e w' ⟨rfl, rfl⟩))
    go_ret
    exact ⟨rfl, rfl⟩

theorem self_ok (a : Int) : doOk 1 a a = true := by rw [doOk1]; simp [inR]
theorem self_val (a : Int) : doVal 1 a a = 0 := by rw [doVal1 (by simp [inR])]; omega
theorem back_add {a b : Int} (ha : -9223372036854775808 ≤ a) (ha' : a ≤ 9223372036854775807) (h : doOk 0 a b = true) : doOk 1 (doVal 0 a b) b = true ∧ doVal 1 (doVal 0 a b) b = a := by
  rw [doOk0] at h
  rw [doVal0 h]
  have e : inR (a + b - b) = true := by rw [show a + b - b = a by omega]; exact inR_of ha ha'
  exact ⟨by rw [doOk1]; exact e, by rw [doVal1 e]; omega⟩
theorem back_mul {a b : Int} (ha : -9223372036854775808 ≤ a) (ha' : a ≤ 9223372036854775807) (h : doOk 2 a b = true) (hb : b ≠ 0) :
    doOk 3 (doVal 2 a b) b = true ∧ doVal 3 (doVal 2 a b) b = a ∧ doOk 4 (doVal 2 a b) b = true ∧ doVal 4 (doVal 2 a b) b = 0 := by
  rw [doOk2] at h
  rw [doVal2 h]
  have e1 : doOk 3 (a * b) b = true := by rw [doOk3, Int.mul_tdiv_cancel _ hb, inR_of ha ha']; simpa using hb
  exact ⟨e1, by rw [doVal3 e1, Int.mul_tdiv_cancel _ hb], by rw [doOk4]; simpa using hb, by rw [doVal4 hb, Int.mul_tmod_left]⟩

set_option maxHeartbeats 800000 in
theorem backs_walk (a b : Int) (w : World) (hs : Signs w) (ha : -9223372036854775808 ≤ a) (ha' : a ≤ 9223372036854775807) (hb : -9223372036854775808 ≤ b) (hb' : b ≤ 9223372036854775807) :
    Calls Tryd.prog 13 #[.int .i64 a, .int .i64 b] w fun e w' => e = .returned (.bool true) ∧ w = w' := by
  have g1 := self_ok a
  have g2 := self_val a
  obtain ⟨b1, b2⟩ := doVal_bd 0 a b ha ha'
  obtain ⟨b3, b4⟩ := doVal_bd 2 a b ha ha'
  by_cases p : doOk 0 a b = true
  · obtain ⟨p1, p2⟩ := back_add ha ha' p
    by_cases q : doOk 2 a b = true
    · by_cases z : b = 0
      · have z' : (b != 0) = false := by simpa using z
        clear z
        go_enter Tryd.func13, Tryd.ntmps13
        go_wp2_with (first | (go_at_call 28; refine (head_calls _ hs).mono ?_; rintro e w' ⟨rfl, rfl⟩) | (go_at_call 29; refine (do_calls _ _ _ _ (by assumption) (by assumption) (by assumption) (by assumption)).mono ?_; rintro e w' ⟨rfl, rfl⟩))
        go_ret
        exact ⟨rfl, rfl⟩
      · obtain ⟨q1, q2, q3, q4⟩ := back_mul ha ha' q z
        have z' : (b != 0) = true := by simpa using z
        clear z
        go_enter Tryd.func13, Tryd.ntmps13
        go_wp2_with (first | (go_at_call 28; refine (head_calls _ hs).mono ?_; rintro e w' ⟨rfl, rfl⟩) | (go_at_call 29; refine (do_calls _ _ _ _ (by assumption) (by assumption) (by assumption) (by assumption)).mono ?_; rintro e w' ⟨rfl, rfl⟩))
        go_ret
        exact ⟨rfl, rfl⟩
    · have q' : doOk 2 a b = false := by simpa using q
      clear q
      go_enter Tryd.func13, Tryd.ntmps13
      go_wp2_with (first | (go_at_call 28; refine (head_calls _ hs).mono ?_; rintro e w' ⟨rfl, rfl⟩) | (go_at_call 29; refine (do_calls _ _ _ _ (by assumption) (by assumption) (by assumption) (by assumption)).mono ?_; rintro e w' ⟨rfl, rfl⟩))
      go_ret
      exact ⟨rfl, rfl⟩
  · have p' : doOk 0 a b = false := by simpa using p
    clear p
    by_cases q : doOk 2 a b = true
    · by_cases z : b = 0
      · have z' : (b != 0) = false := by simpa using z
        clear z
        go_enter Tryd.func13, Tryd.ntmps13
        go_wp2_with (first | (go_at_call 28; refine (head_calls _ hs).mono ?_; rintro e w' ⟨rfl, rfl⟩) | (go_at_call 29; refine (do_calls _ _ _ _ (by assumption) (by assumption) (by assumption) (by assumption)).mono ?_; rintro e w' ⟨rfl, rfl⟩))
        go_ret
        exact ⟨rfl, rfl⟩
      · obtain ⟨q1, q2, q3, q4⟩ := back_mul ha ha' q z
        have z' : (b != 0) = true := by simpa using z
        clear z
        go_enter Tryd.func13, Tryd.ntmps13
        go_wp2_with (first | (go_at_call 28; refine (head_calls _ hs).mono ?_; rintro e w' ⟨rfl, rfl⟩) | (go_at_call 29; refine (do_calls _ _ _ _ (by assumption) (by assumption) (by assumption) (by assumption)).mono ?_; rintro e w' ⟨rfl, rfl⟩))
        go_ret
        exact ⟨rfl, rfl⟩
    · have q' : doOk 2 a b = false := by simpa using q
      clear q
      go_enter Tryd.func13, Tryd.ntmps13
      go_wp2_with (first | (go_at_call 28; refine (head_calls _ hs).mono ?_; rintro e w' ⟨rfl, rfl⟩) | (go_at_call 29; refine (do_calls _ _ _ _ (by assumption) (by assumption) (by assumption) (by assumption)).mono ?_; rintro e w' ⟨rfl, rfl⟩))
      go_ret
      exact ⟨rfl, rfl⟩
end Go.Proofs.YtfcjiiogigfjkaaDoor
