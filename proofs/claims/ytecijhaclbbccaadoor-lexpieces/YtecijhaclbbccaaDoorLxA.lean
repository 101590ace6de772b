/- Contracts of the lexer's small functions: isLower, isUpper, isDigit, inWord, wordEnd, commentLast, skip. Written by mklxa.py. -/
import Derived.Test.YtecijhaclbbccaaDoorRows
import Derived.Test.YtecijhaclbbccaaDoorLxMath
import Derived.WalkKit
import Derived.WalkSpells
import Derived.WalkLawsBesides
import Derived.Lib.Hide
import Derived.BigQuiet
import Derived.BigRegion
import Derived.Deep.QuietTactic
import Derived.Deep.RegionHeld3
import Derived.StillTailTactics
import Derived.Deep.AppendLies
import Derived.Deep.DrawnRows
import Derived.Maps.AppendAt
namespace Go.Proofs.YtecijhaclbbccaaDoor
open Go.RowKit
set_option linter.unusedVariables false
set_option linter.unusedSimpArgs false

theorem ret_b {x y : Bool} (h : x = y) : Ending.returned (.bool x) = .returned (.bool y) := by rw [h]
theorem ret_int {k : IntKind} {a b : Int} (h : a = b) : Ending.returned (.int k a) = .returned (.int k b) := by rw [h]
/-- The bytes of a text. -/
def bs (s : ByteArray) : Bytes := s.data.toList
theorem bs_len (s : ByteArray) : (bs s).length = s.size := by unfold bs; rw [Array.length_toList]; rfl
theorem bs_drop {s : ByteArray} {k : Nat} (h : k < s.size) : (bs s).drop k = s[k] :: (bs s).drop (k + 1) := by
  unfold bs
  rw [List.drop_eq_getElem_cons (by have := bs_len s; unfold bs at this; omega)]
  rfl
theorem bs_end {s : ByteArray} {k : Nat} (h : ¬ k < s.size) : (bs s).drop k = [] := List.drop_eq_nil_of_le (by rw [bs_len]; omega)
theorem isLower_calls (b : Nat) (w : World) : Calls Tryd.prog 24 #[.int .u8 b] w fun e w' => e = .returned (.bool (lowB b)) ∧ w = w' := by
  by_cases h1 : 97 ≤ b
  · have t1 : decide ((97 : Int) ≤ (b : Int)) = true := decide_eq_true (by omega)
    have R : Hid (lowB b = decide ((b : Int) ≤ 122)) := Lib.hid (by unfold lowB; rw [decide_eq_true h1, Bool.true_and]; exact decide_eq_decide.2 (by omega))
    clear h1
    go_enter Tryd.func24, Tryd.ntmps24
    go_wp2_with fail
    go_ret
    exact ⟨ret_b R.out.symm, rfl⟩
  · have t1 : decide ((97 : Int) ≤ (b : Int)) = false := decide_eq_false (by omega)
    have R : Hid (lowB b = false) := Lib.hid (by unfold lowB; rw [decide_eq_false h1, Bool.false_and])
    clear h1
    go_enter Tryd.func24, Tryd.ntmps24
    go_wp2_with fail
    go_ret
    exact ⟨ret_b R.out.symm, rfl⟩
theorem isUpper_calls (b : Nat) (w : World) : Calls Tryd.prog 31 #[.int .u8 b] w fun e w' => e = .returned (.bool (upB b)) ∧ w = w' := by
  by_cases h1 : 65 ≤ b
  · have t1 : decide ((65 : Int) ≤ (b : Int)) = true := decide_eq_true (by omega)
    have R : Hid (upB b = decide ((b : Int) ≤ 90)) := Lib.hid (by unfold upB; rw [decide_eq_true h1, Bool.true_and]; exact decide_eq_decide.2 (by omega))
    clear h1
    go_enter Tryd.func31, Tryd.ntmps31
    go_wp2_with fail
    go_ret
    exact ⟨ret_b R.out.symm, rfl⟩
  · have t1 : decide ((65 : Int) ≤ (b : Int)) = false := decide_eq_false (by omega)
    have R : Hid (upB b = false) := Lib.hid (by unfold upB; rw [decide_eq_false h1, Bool.false_and])
    clear h1
    go_enter Tryd.func31, Tryd.ntmps31
    go_wp2_with fail
    go_ret
    exact ⟨ret_b R.out.symm, rfl⟩
theorem isDigit_calls (b : Nat) (w : World) : Calls Tryd.prog 32 #[.int .u8 b] w fun e w' => e = .returned (.bool (digB b)) ∧ w = w' := by
  by_cases h1 : 48 ≤ b
  · have t1 : decide ((48 : Int) ≤ (b : Int)) = true := decide_eq_true (by omega)
    have R : Hid (digB b = decide ((b : Int) ≤ 57)) := Lib.hid (by unfold digB; rw [decide_eq_true h1, Bool.true_and]; exact decide_eq_decide.2 (by omega))
    clear h1
    go_enter Tryd.func32, Tryd.ntmps32
    go_wp2_with fail
    go_ret
    exact ⟨ret_b R.out.symm, rfl⟩
  · have t1 : decide ((48 : Int) ≤ (b : Int)) = false := decide_eq_false (by omega)
    have R : Hid (digB b = false) := Lib.hid (by unfold digB; rw [decide_eq_false h1, Bool.false_and])
    clear h1
    go_enter Tryd.func32, Tryd.ntmps32
    go_wp2_with fail
    go_ret
    exact ⟨ret_b R.out.symm, rfl⟩
theorem inWord_calls (b : Nat) (w : World) : Calls Tryd.prog 41 #[.int .u8 b] w fun e w' => e = .returned (.bool (wordB b)) ∧ w = w' := by
  have c1 := isLower_calls b w
  have c2 := isUpper_calls b w
  have c3 := isDigit_calls b w
  have W : Hid (wordB b = (lowB b || upB b || digB b || decide ((b : Int) = 95))) := Lib.hid (by unfold wordB; congr 1; exact decide_eq_decide.2 (by omega))
  cases h1 : lowB b with
  | true =>
    rw [h1] at c1 W
    clear h1 c2 c3
    go_enter Tryd.func41, Tryd.ntmps41
    go_wp2_with fail
    refine c1.mono ?_
    rintro e w' ⟨rfl, rfl⟩
    go_wp2_with fail
    go_ret
    exact ⟨ret_b (by rw [W.out]; simp), rfl⟩
  | false =>
    rw [h1] at c1 W
    cases h2 : upB b with
    | true =>
      rw [h2] at c2 W
      clear h1 h2 c3
      go_enter Tryd.func41, Tryd.ntmps41
      go_wp2_with fail
      refine c1.mono ?_
      rintro e w' ⟨rfl, rfl⟩
      go_wp2_with fail
      refine c2.mono ?_
      rintro e w' ⟨rfl, rfl⟩
      go_wp2_with fail
      go_ret
      exact ⟨ret_b (by rw [W.out]; simp), rfl⟩
    | false =>
      rw [h2] at c2 W
      cases h3 : digB b with
      | true =>
        rw [h3] at c3 W
        clear h1 h2 h3
        go_enter Tryd.func41, Tryd.ntmps41
        go_wp2_with fail
        refine c1.mono ?_
        rintro e w' ⟨rfl, rfl⟩
        go_wp2_with fail
        refine c2.mono ?_
        rintro e w' ⟨rfl, rfl⟩
        go_wp2_with fail
        refine c3.mono ?_
        rintro e w' ⟨rfl, rfl⟩
        go_wp2_with fail
        go_ret
        exact ⟨ret_b (by rw [W.out]; simp), rfl⟩
      | false =>
        rw [h3] at c3 W
        clear h1 h2 h3
        by_cases h4 : (b : Int) = 95
        · have t4 : ((b : Int) == 95) = true := by simp [h4]
          have R : Hid (wordB b = true) := Lib.hid (by rw [W.out, decide_eq_true h4]; rfl)
          clear h4
          go_enter Tryd.func41, Tryd.ntmps41
          go_wp2_with fail
          refine c1.mono ?_
          rintro e w' ⟨rfl, rfl⟩
          go_wp2_with fail
          refine c2.mono ?_
          rintro e w' ⟨rfl, rfl⟩
          go_wp2_with fail
          refine c3.mono ?_
          rintro e w' ⟨rfl, rfl⟩
          go_wp2_with fail
          go_ret
          exact ⟨ret_b R.out.symm, rfl⟩
        · have t4 : ((b : Int) == 95) = false := beq_eq_false_iff_ne.2 h4
          have R : Hid (wordB b = false) := Lib.hid (by rw [W.out, decide_eq_false h4]; rfl)
          clear h4
          go_enter Tryd.func41, Tryd.ntmps41
          go_wp2_with fail
          refine c1.mono ?_
          rintro e w' ⟨rfl, rfl⟩
          go_wp2_with fail
          refine c2.mono ?_
          rintro e w' ⟨rfl, rfl⟩
          go_wp2_with fail
          refine c3.mono ?_
          rintro e w' ⟨rfl, rfl⟩
          go_wp2_with fail
          go_ret
          exact ⟨ret_b R.out.symm, rfl⟩
theorem wordM_cons {b : UInt8} {r : Bytes} : wordM (b :: r) = if wordB b.toNat = true then wordM r + 1 else 0 := by
  unfold wordM
  by_cases h : wordB b.toNat = true
  · rw [List.takeWhile_cons_of_pos (by simpa using h), if_pos h]; simp
  · rw [List.takeWhile_cons_of_neg (by simpa using h), if_neg h]; rfl
theorem lineM_cons {b : UInt8} {r : Bytes} : lineM (b :: r) = if b.toNat = 10 then 0 else lineM r + 1 := by
  unfold lineM
  by_cases h : b.toNat = 10
  · rw [List.takeWhile_cons_of_neg (by simpa using h), if_pos h]; rfl
  · rw [List.takeWhile_cons_of_pos (by simpa using h), if_neg h]; simp
set_option maxRecDepth 100000 in
theorem wordEnd_calls (s : ByteArray) (p : Nat) (w : World) (hp : p ≤ s.size) (hs : s.size ≤ 1000000) :
    Calls Tryd.prog 25 #[.string s, .int .i64 p] w fun e w' => e = .returned (.int .i64 ((p + wordM ((bs s).drop p) : Nat) : Int)) ∧ w = w' := by
  go_enter Tryd.func25, Tryd.ntmps25
  go_wp2_with fail
  go_loop [1] (fun i => ∃ k : Nat, k ≤ s.size ∧ i = .int .i64 k ∧ Hid (k + wordM ((bs s).drop k) = p + wordM ((bs s).drop p))) (fun i => s.size - (intOf i).toNat)
  case atStart => exact ⟨p, hp, rfl, Lib.hid rfl⟩
  case round =>
    obtain ⟨k, hk, rfl, HE⟩ := hrel
    by_cases hlt : k < s.size
    · have ST : Hid (wordM ((bs s).drop k) = if wordB (s[k]).toNat = true then wordM ((bs s).drop (k + 1)) + 1 else 0) := Lib.hid (by rw [bs_drop hlt, wordM_cons])
      have cw := inWord_calls (s[k]).toNat w
      cases hb : wordB (s[k]).toNat with
      | true =>
        rw [hb] at cw ST
        have NX : Hid (k + 1 + wordM ((bs s).drop (k + 1)) = p + wordM ((bs s).drop p)) := Lib.hid (by rw [← HE.out, ST.out, if_pos rfl]; omega)
        clear hb
        go_wp2_with fail
        refine cw.mono ?_
        rintro e w' ⟨rfl, rfl⟩
        go_wp2_with fail
        go_round
        case rel => exact ⟨k + 1, by omega, by go_num, NX⟩
        case measure => simp [intOf]; omega
      | false =>
        rw [hb] at cw ST
        have FX : Hid ((k : Int) = ((p + wordM ((bs s).drop p) : Nat) : Int)) := Lib.hid (by rw [← HE.out, ST.out, if_neg Bool.false_ne_true]; simp)
        clear hb
        go_wp2_with fail
        refine cw.mono ?_
        rintro e w' ⟨rfl, rfl⟩
        go_wp2_with fail
        go_ret
        exact ⟨ret_int FX.out, rfl⟩
    · have FX : Hid ((k : Int) = ((p + wordM ((bs s).drop p) : Nat) : Int)) := Lib.hid (by rw [← HE.out, bs_end hlt]; simp [wordM])
      go_wp2_with fail
      go_ret
      exact ⟨ret_int FX.out, rfl⟩
set_option maxRecDepth 100000 in
theorem commentLast_calls (s : ByteArray) (p : Nat) (w : World) (hp : p < s.size) (hs : s.size ≤ 1000000) :
    Calls Tryd.prog 29 #[.string s, .int .i64 p] w fun e w' => e = .returned (.int .i64 ((p + lineM ((bs s).drop (p + 1)) : Nat) : Int)) ∧ w = w' := by
  go_enter Tryd.func29, Tryd.ntmps29
  go_wp2_with fail
  go_loop [1] (fun i => ∃ k : Nat, k < s.size ∧ i = .int .i64 k ∧ Hid (k + lineM ((bs s).drop (k + 1)) = p + lineM ((bs s).drop (p + 1)))) (fun i => s.size - (intOf i).toNat)
  case atStart => exact ⟨p, hp, rfl, Lib.hid rfl⟩
  case round =>
    obtain ⟨k, hk, rfl, HE⟩ := hrel
    by_cases hlt : k + 1 < s.size
    · have ST : Hid (lineM ((bs s).drop (k + 1)) = if (s[k + 1]).toNat = 10 then 0 else lineM ((bs s).drop (k + 1 + 1)) + 1) := Lib.hid (by rw [bs_drop hlt, lineM_cons])
      have t1 : decide ((k : Int) + 1 < (s.size : Int)) = true := decide_eq_true (by omega)
      by_cases hb : (s[k + 1]).toNat = 10
      · have t2 : (((s[k + 1]).toNat : Int) != 10) = false := by simp [hb]
        have FX : Hid ((k : Int) = ((p + lineM ((bs s).drop (p + 1)) : Nat) : Int)) := Lib.hid (by rw [← HE.out, ST.out, if_pos hb]; simp)
        clear hb
        go_wp2_with fail
        go_ret
        exact ⟨ret_int FX.out, rfl⟩
      · have t2 : (((s[k + 1]).toNat : Int) != 10) = true := by rw [bne_iff_ne]; omega
        have NX : Hid (k + 1 + lineM ((bs s).drop (k + 1 + 1)) = p + lineM ((bs s).drop (p + 1))) := Lib.hid (by rw [← HE.out, ST.out, if_neg hb]; omega)
        clear hb
        go_wp2_with fail
        go_round
        case rel => exact ⟨k + 1, by omega, by go_num, NX⟩
        case measure => simp [intOf]; omega
    · have t1 : decide ((k : Int) + 1 < (s.size : Int)) = false := decide_eq_false (by omega)
      have FX : Hid ((k : Int) = ((p + lineM ((bs s).drop (p + 1)) : Nat) : Int)) := Lib.hid (by rw [← HE.out, bs_end hlt]; simp [lineM])
      go_wp2_with fail
      go_ret
      exact ⟨ret_int FX.out, rfl⟩
theorem skip_line (r : Bytes) : skipM true r = lineM r + skipM false (r.drop (lineM r)) := by
  induction r with
  | nil => rfl
  | cons b r ih =>
    rw [lineM_cons, skipM]
    by_cases h : b.toNat = 10
    · rw [if_pos h, if_pos h, List.drop_zero, Nat.zero_add, skipM, if_neg (by omega), if_pos (by simp [blankB, h])]
    · rw [if_neg h, if_neg h, ih, List.drop_succ_cons]; omega
theorem lineM_le (r : Bytes) : lineM r ≤ r.length := by unfold lineM; exact (List.takeWhile_sublist _).length_le
set_option maxRecDepth 100000 in
theorem skip_calls (s : ByteArray) (p : Nat) (w : World) (hp : p ≤ s.size) (hs : s.size ≤ 1000000) :
    Calls Tryd.prog 20 #[.string s, .int .i64 p] w fun e w' => e = .returned (.int .i64 ((p + skipM false ((bs s).drop p) : Nat) : Int)) ∧ w = w' := by
  go_enter Tryd.func20, Tryd.ntmps20
  go_wp2_with fail
  go_loop [1] (fun i => ∃ k : Nat, k ≤ s.size ∧ i = .int .i64 k ∧ Hid (k + skipM false ((bs s).drop k) = p + skipM false ((bs s).drop p))) (fun i => s.size - (intOf i).toNat)
  case atStart => exact ⟨p, hp, rfl, Lib.hid rfl⟩
  case round =>
    obtain ⟨k, hk, rfl, HE⟩ := hrel
    by_cases hlt : k < s.size
    · have ST : Hid (skipM false ((bs s).drop k) = if (s[k]).toNat = 35 then 1 + skipM true ((bs s).drop (k + 1)) else if blankB (s[k]).toNat = true then 1 + skipM false ((bs s).drop (k + 1)) else 0) := Lib.hid (by rw [bs_drop hlt]; rfl)
      have cc := commentLast_calls s k w hlt hs
      have LE : lineM ((bs s).drop (k + 1)) ≤ s.size - (k + 1) := by have := lineM_le ((bs s).drop (k + 1)); rw [List.length_drop, bs_len] at this; exact this
      have SL := Lib.hid (skip_line ((bs s).drop (k + 1)))
      rw [List.drop_drop] at SL
      generalize lineM ((bs s).drop (k + 1)) = m at *
      by_cases h35 : (s[k]).toNat = 35
      · have t35 : (((s[k]).toNat : Int) == 35) = true := by simp [h35]
        have NX : Hid (k + m + 1 + skipM false ((bs s).drop (k + m + 1)) = p + skipM false ((bs s).drop p)) := Lib.hid (by
          rw [← HE.out, ST.out, if_pos h35, SL.out, show k + 1 + m = k + m + 1 by omega]; omega)
        clear h35
        go_wp2_with fail
        refine cc.mono ?_
        rintro e w' ⟨rfl, rfl⟩
        go_wp2_with fail
        go_round
        case rel => exact ⟨k + m + 1, by omega, by go_num, NX⟩
        case measure => simp [intOf]; omega
      · have t35 : (((s[k]).toNat : Int) == 35) = false := beq_eq_false_iff_ne.2 (by omega)
        clear cc SL
        by_cases h32 : (s[k]).toNat = 32
        · have t32 : (((s[k]).toNat : Int) == 32) = true := by simp [h32]
          have NX : Hid (k + 1 + skipM false ((bs s).drop (k + 1)) = p + skipM false ((bs s).drop p)) := Lib.hid (by
            rw [← HE.out, ST.out, if_neg h35, if_pos (by simp [blankB, h32])]; omega)
          clear h32
          go_wp2_with fail
          go_round
          case rel => exact ⟨k + 1, by omega, by go_num, NX⟩
          case measure => simp [intOf]; omega
        have t32 : (((s[k]).toNat : Int) == 32) = false := beq_eq_false_iff_ne.2 (by omega)
        by_cases h9 : (s[k]).toNat = 9
        · have t9 : (((s[k]).toNat : Int) == 9) = true := by simp [h9]
          have NX : Hid (k + 1 + skipM false ((bs s).drop (k + 1)) = p + skipM false ((bs s).drop p)) := Lib.hid (by
            rw [← HE.out, ST.out, if_neg h35, if_pos (by simp [blankB, h9])]; omega)
          clear h9
          go_wp2_with fail
          go_round
          case rel => exact ⟨k + 1, by omega, by go_num, NX⟩
          case measure => simp [intOf]; omega
        have t9 : (((s[k]).toNat : Int) == 9) = false := beq_eq_false_iff_ne.2 (by omega)
        by_cases h13 : (s[k]).toNat = 13
        · have t13 : (((s[k]).toNat : Int) == 13) = true := by simp [h13]
          have NX : Hid (k + 1 + skipM false ((bs s).drop (k + 1)) = p + skipM false ((bs s).drop p)) := Lib.hid (by
            rw [← HE.out, ST.out, if_neg h35, if_pos (by simp [blankB, h13])]; omega)
          clear h13
          go_wp2_with fail
          go_round
          case rel => exact ⟨k + 1, by omega, by go_num, NX⟩
          case measure => simp [intOf]; omega
        have t13 : (((s[k]).toNat : Int) == 13) = false := beq_eq_false_iff_ne.2 (by omega)
        by_cases h10 : (s[k]).toNat = 10
        · have t10 : (((s[k]).toNat : Int) == 10) = true := by simp [h10]
          have NX : Hid (k + 1 + skipM false ((bs s).drop (k + 1)) = p + skipM false ((bs s).drop p)) := Lib.hid (by
            rw [← HE.out, ST.out, if_neg h35, if_pos (by simp [blankB, h10])]; omega)
          clear h10
          go_wp2_with fail
          go_round
          case rel => exact ⟨k + 1, by omega, by go_num, NX⟩
          case measure => simp [intOf]; omega
        have t10 : (((s[k]).toNat : Int) == 10) = false := beq_eq_false_iff_ne.2 (by omega)
        have FX : Hid ((k : Int) = ((p + skipM false ((bs s).drop p) : Nat) : Int)) := Lib.hid (by
          rw [← HE.out, ST.out, if_neg h35, if_neg (by simp [blankB, h32, h9, h13, h10])]; simp)
        clear h35 h32 h9 h13 h10
        go_wp2_with fail
        go_ret
        exact ⟨ret_int FX.out, rfl⟩
    · have FX : Hid ((k : Int) = ((p + skipM false ((bs s).drop p) : Nat) : Int)) := Lib.hid (by rw [← HE.out, bs_end hlt]; simp [skipM])
      go_wp2_with fail
      go_ret
      exact ⟨ret_int FX.out, rfl⟩
end Go.Proofs.YtecijhaclbbccaaDoor
