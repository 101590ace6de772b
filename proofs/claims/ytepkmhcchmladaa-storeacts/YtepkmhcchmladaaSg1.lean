import Derived.Test.YtepkmhcchmladaaRw
import Derived.Test.YtepkmhcchmladaaSegMath
/- Contracts of the comparisons of rows: cmp.Compare, slices.Compare, slices.Equal, and the statements' own Compare. -/
namespace Go.Proofs.Ytepkmhcchmladaa
open Go.RowKit
set_option linter.unusedVariables false
set_option linter.unusedSimpArgs false

def cmp3 (x y : Int) : Int := if x < y then -1 else if y < x then 1 else 0
/-- Two rows compared: -1, 0, 1. -/
def cmpS (a b : List Int) : Int := if cmpR a b < 0 then -1 else if 0 < cmpR a b then 1 else 0
theorem ret_i {a b : Int} (h : a = b) : Ending.returned (.int .i64 a) = .returned (.int .i64 b) := by rw [h]
theorem ret_b {x y : Bool} (h : x = y) : Ending.returned (.bool x) = .returned (.bool y) := by rw [h]

theorem isNaN_calls (x : Int) (w : World) : Calls Try.prog 91 #[.int .i64 x] w fun e w' => e = .returned (.bool false) ∧ w = w' := by
  go_enter Try.func91, Try.ntmps91
  go_wp2_with fail
  go_ret
  exact ⟨rfl, rfl⟩
theorem cmp_calls (x y : Int) (w : World) : Calls Try.prog 72 #[.int .i64 x, .int .i64 y] w fun e w' => e = .returned (.int .i64 (cmp3 x y)) ∧ w = w' := by
  by_cases h1 : x < y
  · have H := Lib.hid (show cmp3 x y = -1 by simp [cmp3, h1])
    go_enter Try.func72, Try.ntmps72
    go_wp2_with (first | (go_at_call 91; refine (isNaN_calls _ _).mono ?_; rintro e w' ⟨rfl, rfl⟩))
    go_ret
    exact ⟨ret_i H.out.symm, rfl⟩
  · by_cases h2 : y < x
    · have H := Lib.hid (show cmp3 x y = 1 by simp [cmp3, h1, h2])
      have t1 : decide (x < y) = false := decide_eq_false h1
      clear h1
      go_enter Try.func72, Try.ntmps72
      go_wp2_with (first | (go_at_call 91; refine (isNaN_calls _ _).mono ?_; rintro e w' ⟨rfl, rfl⟩))
      go_ret
      exact ⟨ret_i H.out.symm, rfl⟩
    · have H := Lib.hid (show cmp3 x y = 0 by simp [cmp3, h1, h2])
      have t1 : decide (x < y) = false := decide_eq_false h1
      have t2 : decide (y < x) = false := decide_eq_false h2
      clear h1 h2
      go_enter Try.func72, Try.ntmps72
      go_wp2_with (first | (go_at_call 91; refine (isNaN_calls _ _).mono ?_; rintro e w' ⟨rfl, rfl⟩))
      go_ret
      exact ⟨ret_i H.out.symm, rfl⟩

theorem drop_step {l : List Int} {k : Nat} (h : k < l.length) : l.drop k = (l[k]?.getD 0) :: l.drop (k + 1) := by
  rw [List.drop_eq_getElem_cons h, List.getElem?_eq_getElem h]; rfl
theorem cmpR_step {a b : List Int} {k : Nat} (ha : k < a.length) (hb : k < b.length) : cmpR (a.drop k) (b.drop k) = if (a[k]?.getD 0) < (b[k]?.getD 0) then -1 else if (b[k]?.getD 0) < (a[k]?.getD 0) then 1 else cmpR (a.drop (k + 1)) (b.drop (k + 1)) := by
  rw [drop_step ha, drop_step hb, cmpR_cons]
theorem cmpR_end {a b : List Int} {k : Nat} (h : a.length = k ∨ b.length = k) (ha : k ≤ a.length) (hb : k ≤ b.length) : cmpR (a.drop k) (b.drop k) = (a.length : Int) - (b.length : Int) := by
  rcases h with h | h
  · rw [List.drop_eq_nil_of_le (by omega), cmpR_nil, List.length_drop]; omega
  · rw [show b.drop k = [] from List.drop_eq_nil_of_le (by omega), cmpR_nil2, List.length_drop]; omega

set_option maxHeartbeats 1000000 in
/-- slices.Compare. -/
theorem compare_calls (a b : Option Addr) (ca cb : Nat) (xs ys : List Int) (w : World) (ha : Row w a xs) (hb : Row w b ys) (hx : xs.length ≤ 1000000) (hy : ys.length ≤ 1000000) :
    Calls Try.prog 44 #[.slice a xs.length ca, .slice b ys.length cb] w fun e w' => e = .returned (.int .i64 (cmpS xs ys)) ∧ w = w' := by
  have HA := Lib.hid ha
  have HB := Lib.hid hb
  clear ha hb
  go_enter Try.func44, Try.ntmps44
  go_wp2_with fail
  go_loop [11] (fun s => ∃ k : Nat, s = .int .i64 k ∧ k ≤ xs.length ∧ k ≤ ys.length ∧ Hid (cmpR xs ys = cmpR (xs.drop k) (ys.drop k))) (fun s => xs.length - (intOf s).toNat)
  case atStart => exact ⟨0, rfl, Nat.zero_le _, Nat.zero_le _, Lib.hid rfl⟩
  case round =>
    obtain ⟨k, rfl, h1, h2, HE⟩ := hrel
    by_cases hlt : k < xs.length
    · obtain ⟨b1, off1, rfl, hb1, hc1⟩ := HA.out.at hlt
      by_cases hlt2 : k < ys.length
      · obtain ⟨b2, off2, rfl, hb2, hc2⟩ := HB.out.at hlt2
        have ST := Lib.hid (cmpR_step hlt hlt2)
        generalize xs[k]?.getD 0 = x at *
        generalize ys[k]?.getD 0 = y at *
        by_cases e1 : x < y
        · have HC := Lib.hid (show cmp3 x y = -1 by simp [cmp3, e1])
          have HF := Lib.hid (show cmpS xs ys = -1 by unfold cmpS; rw [HE.out, ST.out, if_pos e1]; rfl)
          have cc : Calls Try.prog 72 #[.int .i64 x, .int .i64 y] w fun e w' => e = .returned (.int .i64 (-1)) ∧ w = w' := by have := cmp_calls x y w; rw [HC.out] at this; exact this
          clear e1
          go_wp2_with (first | (go_at_call 72; refine cc.mono ?_; rintro e w' ⟨rfl, rfl⟩))
          go_ret
          exact ⟨ret_i HF.out.symm, rfl⟩
        · by_cases e2 : y < x
          · have HC := Lib.hid (show cmp3 x y = 1 by simp [cmp3, e1, e2])
            have HF := Lib.hid (show cmpS xs ys = 1 by unfold cmpS; rw [HE.out, ST.out, if_neg e1, if_pos e2]; rfl)
            have cc : Calls Try.prog 72 #[.int .i64 x, .int .i64 y] w fun e w' => e = .returned (.int .i64 1) ∧ w = w' := by have := cmp_calls x y w; rw [HC.out] at this; exact this
            clear e1 e2
            go_wp2_with (first | (go_at_call 72; refine cc.mono ?_; rintro e w' ⟨rfl, rfl⟩))
            go_ret
            exact ⟨ret_i HF.out.symm, rfl⟩
          · have HC := Lib.hid (show cmp3 x y = 0 by simp [cmp3, e1, e2])
            have HF : Hid (cmpR xs ys = cmpR (xs.drop (k + 1)) (ys.drop (k + 1))) := Lib.hid (by rw [HE.out, ST.out, if_neg e1, if_neg e2])
            have cc : Calls Try.prog 72 #[.int .i64 x, .int .i64 y] w fun e w' => e = .returned (.int .i64 0) ∧ w = w' := by have := cmp_calls x y w; rw [HC.out] at this; exact this
            clear e1 e2
            go_wp2_with (first | (go_at_call 72; refine cc.mono ?_; rintro e w' ⟨rfl, rfl⟩))
            go_round
            case rel => exact ⟨k + 1, by go_num, by omega, by omega, HF⟩
            case measure => simp [intOf]; omega
      · have HF := Lib.hid (show cmpS xs ys = 1 by unfold cmpS; rw [HE.out, cmpR_end (.inr (by omega)) h1 h2, if_neg (by omega), if_pos (by omega)])
        have t1 : decide (ys.length ≤ k) = true := by simp; omega
        go_wp2_with fail
        go_ret
        exact ⟨ret_i HF.out.symm, rfl⟩
    · obtain rfl : k = xs.length := by omega
      have ED := Lib.hid (cmpR_end (.inl rfl) h1 h2)
      by_cases e : xs.length < ys.length
      · have HF := Lib.hid (show cmpS xs ys = -1 by unfold cmpS; rw [HE.out, ED.out, if_pos (by omega)])
        go_wp2_with fail
        go_ret
        exact ⟨ret_i HF.out.symm, rfl⟩
      · have HF := Lib.hid (show cmpS xs ys = 0 by unfold cmpS; rw [HE.out, ED.out, if_neg (by omega), if_neg (by omega)])
        have t1 : decide (xs.length < ys.length) = false := decide_eq_false e
        go_wp2_with fail
        go_ret
        exact ⟨ret_i HF.out.symm, rfl⟩
theorem make1_calls (a b : Option Addr) (ca cb : Nat) (xs ys : List Int) (w : World) (ha : Row w a xs) (hb : Row w b ys) (hx : xs.length ≤ 1000000) (hy : ys.length ≤ 1000000) :
    Calls Try.prog 43 #[.slice a xs.length ca, .slice b ys.length cb] w fun e w' => e = .returned (.int .i64 (cmpS xs ys)) ∧ w = w' := by
  have C := compare_calls a b ca cb xs ys w ha hb hx hy
  clear ha hb
  go_enter Try.func43, Try.ntmps43
  go_wp2_with (first | (go_at_call 44; refine C.mono ?_; rintro e w' ⟨rfl, rfl⟩))
  go_ret
  exact ⟨rfl, rfl⟩

/-- A call that only reads, in whatever order. -/
def Quiet (v : Value) (w : World) (e : Ending) (w' : World) : Prop := e = .returned v ∧ ∃ q, w' = w.drewN q

theorem drewM {w wr : World} {q n : Nat} (h : wr = w.drewN q) : wr.drewN n = w.drewN (q + n) := by rw [h, World.drewN_drewN]
theorem drewM2 {w wr : World} {q n m : Nat} (h : wr = w.drewN q) : (wr.drewN n).drewN m = w.drewN (q + (n + m)) := by rw [h, World.drewN_drewN, World.drewN_drewN]

set_option maxHeartbeats 1000000 in
/-- The statements' own Compare. -/
theorem lawCompare_calls (a b : Option Addr) (ca cb : Nat) (xs ys : List Int) (w : World) (ha : Row w a xs) (hb : Row w b ys) (hx : xs.length ≤ 1000000) (hy : ys.length ≤ 1000000) :
    Calls Try.prog 13 #[.slice a xs.length ca, .slice b ys.length cb] w (Quiet (.int .i64 (cmpR xs ys)) w) := by
  have HA := Lib.hid ha
  have HB := Lib.hid hb
  clear ha hb
  go_enter Try.func13, Try.ntmps13
  go_wp2_with fail
  go_loopw [5] (fun s wr => ∃ k q : Nat, s = .int .i64 k ∧ k ≤ xs.length ∧ k ≤ ys.length ∧ Hid (cmpR xs ys = cmpR (xs.drop k) (ys.drop k)) ∧ Hid (wr = w.drewN q)) (fun s _ => xs.length - (intOf s).toNat)
  case atStart => exact ⟨0, 0, rfl, Nat.zero_le _, Nat.zero_le _, Lib.hid rfl, Lib.hid rfl⟩
  case round =>
    obtain ⟨k, q, rfl, h1, h2, HE, HW⟩ := hrel
    by_cases hlt : k < xs.length
    · obtain ⟨b1, off1, rfl, hb1, hc1⟩ := (show Row wr a xs by rw [HW.out]; exact HA.out.drewN q).at hlt
      by_cases hlt2 : k < ys.length
      · obtain ⟨b2, off2, rfl, hb2, hc2⟩ := (show Row wr b ys by rw [HW.out]; exact HB.out.drewN q).at hlt2
        have ST := Lib.hid (cmpR_step hlt hlt2)
        generalize xs[k]?.getD 0 = x at *
        generalize ys[k]?.getD 0 = y at *
        have i1 : (k : Int) < (xs.length : Int) := by omega
        have i2 : (k : Int) < (ys.length : Int) := by omega
        have i3 : (0 : Int) ≤ (k : Int) := by omega
        by_cases e1 : x < y
        · have HF := Lib.hid (show cmpR xs ys = -1 by rw [HE.out, ST.out, if_pos e1])
          go_wp2_with fail
          go_quiet (fail)
          go_wp2_with fail
          go_ret
          exact ⟨ret_i HF.out.symm, _, by first | exact drewM HW.out | exact drewM2 HW.out⟩
        · by_cases e2 : y < x
          · have HF := Lib.hid (show cmpR xs ys = 1 by rw [HE.out, ST.out, if_neg e1, if_pos e2])
            have t1 : decide (x < y) = false := decide_eq_false e1
            clear e1
            go_wp2_with fail
            go_quiet (fail)
            go_wp2_with fail
            go_quiet (fail)
            go_wp2_with fail
            go_ret
            exact ⟨ret_i HF.out.symm, _, by first | exact drewM HW.out | exact drewM2 HW.out⟩
          · have HF : Hid (cmpR xs ys = cmpR (xs.drop (k + 1)) (ys.drop (k + 1))) := Lib.hid (by rw [HE.out, ST.out, if_neg e1, if_neg e2])
            have t1 : decide (x < y) = false := decide_eq_false e1
            have t2 : decide (y < x) = false := decide_eq_false e2
            clear e1 e2
            go_wp2_with fail
            go_quiet (fail)
            go_wp2_with fail
            go_quiet (fail)
            go_wp2_with fail
            go_roundw
            case rel => exact ⟨k + 1, _, by go_num, by omega, by omega, HF, Lib.hid (by first | exact drewM HW.out | exact drewM2 HW.out)⟩
            case measure => simp [intOf]; omega
      · have HF := Lib.hid (show cmpR xs ys = (xs.length : Int) - (ys.length : Int) by rw [HE.out, cmpR_end (.inr (by omega)) h1 h2])
        have t1 : decide (k < ys.length) = false := decide_eq_false hlt2
        go_wp2_with fail
        go_ret
        exact ⟨ret_i HF.out.symm, _, HW.out⟩
    · obtain rfl : k = xs.length := by omega
      have HF := Lib.hid (show cmpR xs ys = (xs.length : Int) - (ys.length : Int) by rw [HE.out, cmpR_end (.inl rfl) h1 h2])
      go_wp2_with fail
      go_ret
      exact ⟨ret_i HF.out.symm, _, HW.out⟩

set_option maxHeartbeats 1000000 in
/-- slices.Equal. -/
theorem equal_calls (a b : Option Addr) (ca cb : Nat) (xs ys : List Int) (w : World) (ha : Row w a xs) (hb : Row w b ys) (hx : xs.length ≤ 1000000) (hy : ys.length ≤ 1000000) :
    Calls Try.prog 47 #[.slice a xs.length ca, .slice b ys.length cb] w (Quiet (.bool (decide (xs = ys))) w) := by
  have HA := Lib.hid ha
  have HB := Lib.hid hb
  clear ha hb
  by_cases hl : xs.length = ys.length
  · have HL := Lib.hid hl
    have t0 : ((xs.length : Int) != (ys.length : Int)) = false := by simp [hl]
    clear hl
    go_enter Try.func47, Try.ntmps47
    go_wp2_with fail
    go_loopw [13] (fun s wr => ∃ k q : Nat, s = .int .i64 k ∧ k ≤ xs.length ∧ Hid (xs.take k = ys.take k) ∧ Hid (wr = w.drewN q)) (fun s _ => xs.length - (intOf s).toNat)
    case atStart => exact ⟨0, 0, rfl, Nat.zero_le _, Lib.hid rfl, Lib.hid rfl⟩
    case round =>
      obtain ⟨k, q, rfl, h1, HE, HW⟩ := hrel
      by_cases hlt : k < xs.length
      · obtain ⟨b1, off1, rfl, hb1, hc1⟩ := (show Row wr a xs by rw [HW.out]; exact HA.out.drewN q).at hlt
        have hlt2 : k < ys.length := by rw [← HL.out]; exact hlt
        obtain ⟨b2, off2, rfl, hb2, hc2⟩ := (show Row wr b ys by rw [HW.out]; exact HB.out.drewN q).at hlt2
        have i1 : (k : Int) < (xs.length : Int) := by omega
        have i2 : (k : Int) < (ys.length : Int) := by omega
        have i3 : (0 : Int) ≤ (k : Int) := by omega
        by_cases e1 : xs[k]?.getD 0 = ys[k]?.getD 0
        · have HF : Hid (xs.take (k + 1) = ys.take (k + 1)) := Lib.hid (by
            rw [List.take_succ_eq_append_getElem hlt, List.take_succ_eq_append_getElem hlt2, HE.out]
            rw [List.getElem?_eq_getElem hlt, List.getElem?_eq_getElem hlt2] at e1
            simp only [Option.getD_some] at e1
            rw [e1])
          rw [← e1] at hc2
          clear e1
          generalize xs[k]?.getD 0 = x at *
          go_wp2_with fail
          go_quiet (fail)
          go_wp2_with fail
          go_roundw
          case rel => exact ⟨k + 1, _, by go_num, by omega, HF, Lib.hid (by first | exact drewM HW.out | exact drewM2 HW.out)⟩
          case measure => simp [intOf]; omega
        · have HF := Lib.hid (show decide (xs = ys) = false from decide_eq_false (fun e => e1 (by rw [e])))
          generalize xs[k]?.getD 0 = x at *
          generalize ys[k]?.getD 0 = y at *
          have t1 : (x != y) = true := by simpa using e1
          clear e1
          go_wp2_with fail
          go_quiet (fail)
          go_wp2_with fail
          go_ret
          exact ⟨ret_b HF.out.symm, _, by first | exact drewM HW.out | exact drewM2 HW.out⟩
      · have HF := Lib.hid (show decide (xs = ys) = true from decide_eq_true (by
          have := HE.out
          rw [List.take_of_length_le (by omega), List.take_of_length_le (by rw [← HL.out]; omega)] at this
          exact this))
        go_wp2_with fail
        go_ret
        exact ⟨ret_b HF.out.symm, _, HW.out⟩
  · have t0 : ((xs.length : Int) != (ys.length : Int)) = true := by simp; omega
    have HF := Lib.hid (show decide (xs = ys) = false from decide_eq_false (fun e => hl (by rw [e])))
    go_enter Try.func47, Try.ntmps47
    go_wp2_with fail
    go_ret
    exact ⟨ret_b HF.out.symm, 0, rfl⟩
theorem make2_calls (a b : Option Addr) (ca cb : Nat) (xs ys : List Int) (w : World) (ha : Row w a xs) (hb : Row w b ys) (hx : xs.length ≤ 1000000) (hy : ys.length ≤ 1000000) :
    Calls Try.prog 46 #[.slice a xs.length ca, .slice b ys.length cb] w (Quiet (.bool (decide (xs = ys))) w) := by
  have C := equal_calls a b ca cb xs ys w ha hb hx hy
  clear ha hb
  go_enter Try.func46, Try.ntmps46
  go_wp2_with (first | (go_at_call 47; refine C.mono ?_; rintro e w' ⟨rfl, q, rfl⟩))
  go_ret
  exact ⟨rfl, q, rfl⟩
end Go.Proofs.Ytepkmhcchmladaa
