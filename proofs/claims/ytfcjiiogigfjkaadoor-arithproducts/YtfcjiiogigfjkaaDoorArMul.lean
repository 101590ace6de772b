/- bits.Mul64 as the program calls it (the library's own text, walked), and the statement ArithProducts, walked. -/
import Derived.Test.YtfcjiiogigfjkaaDoorArHelp
import Derived.Lib.Mul64
import Derived.Laws.Bits64b
namespace Go.Proofs.YtfcjiiogigfjkaaDoor
open Go.RowKit
set_option linter.unusedVariables false

namespace M64
theorem maskN (a : Nat) (ha : a < 18446744073709551616) : bits .and .u64 (a : Int) 4294967295 = ((a % 4294967296 : Nat) : Int) := by
  have h := bits_and_u64_nat a 4294967295 ha (by omega)
  rw [show a &&& 4294967295 = a % 4294967296 from Nat.and_two_pow_sub_one_eq_mod a 32] at h
  exact h
theorem divN (a : Nat) : (a : Int) / 4294967296 = ((a / 4294967296 : Nat) : Int) := by omega
theorem mulN (a b : Nat) : (a : Int) * (b : Int) = ((a * b : Nat) : Int) := (Int.natCast_mul a b).symm
theorem addN (a b : Nat) : (a : Int) + (b : Int) = ((a + b : Nat) : Int) := (Int.natCast_add a b).symm
theorem wrapN (a : Nat) (ha : a < 18446744073709551616) : IntKind.u64.wrap (a : Int) = (a : Int) := by rw [IntKind.wrap_u64]; omega
theorem wrapM (a : Nat) : IntKind.u64.wrap (a : Int) = ((a % 18446744073709551616 : Nat) : Int) := by rw [IntKind.wrap_u64]; omega
end M64

set_option maxHeartbeats 1000000 in
theorem mul64_calls (x y : Nat) (hx : x < 18446744073709551616) (hy : y < 18446744073709551616) (w : World) :
    Calls Tryd.prog 31 #[.int .u64 x, .int .u64 y] w fun e w' => e = .returned (.tuple #[.int .u64 ((x * y / 18446744073709551616 : Nat) : Int), .int .u64 ((x * y % 18446744073709551616 : Nat) : Int)]) ∧ w = w' := by
  obtain ⟨bd, bt, bw, hhi⟩ := Lib.mul64_hi x y hx hy
  have ba := Lib.half_mul_le (a := x / 4294967296) (b := y / 4294967296) (by omega) (by omega)
  have bb := Lib.half_mul_le (a := x / 4294967296) (b := y % 4294967296) (by omega) (by omega)
  have bc := Lib.half_mul_le (a := x % 4294967296) (b := y / 4294967296) (by omega) (by omega)
  have ba' : x / 4294967296 * (y / 4294967296) < 18446744073709551616 := by omega
  have bb' : x / 4294967296 * (y % 4294967296) < 18446744073709551616 := by omega
  have bc' : x % 4294967296 * (y / 4294967296) < 18446744073709551616 := by omega
  have bh1 : x / 4294967296 * (y / 4294967296) + (x / 4294967296 * (y % 4294967296) + x % 4294967296 * (y % 4294967296) / 4294967296) / 4294967296 < 18446744073709551616 := by omega
  have bh : x / 4294967296 * (y / 4294967296) + (x / 4294967296 * (y % 4294967296) + x % 4294967296 * (y % 4294967296) / 4294967296) / 4294967296 + ((x / 4294967296 * (y % 4294967296) + x % 4294967296 * (y % 4294967296) / 4294967296) % 4294967296 + x % 4294967296 * (y / 4294967296)) / 4294967296 < 18446744073709551616 := by omega
  go_enter Tryd.func31, Tryd.ntmps31
  go_wp2
  simp only [M64.maskN x hx, M64.maskN y hy, M64.divN, M64.mulN, M64.addN, M64.wrapN _ bd, M64.wrapN _ bb', M64.wrapN _ bt, M64.maskN _ bt, M64.wrapN _ bc', M64.wrapN _ bw, M64.wrapN _ ba', M64.wrapN _ bh1, M64.wrapN _ bh, M64.wrapM (x * y)]
  rw [hhi]
  go_ret2
  exact ⟨rfl, rfl⟩

theorem mul64_under (x y p : Nat) (hx : x < 18446744073709551616) (hy : y < 18446744073709551616) (h : x * y = p) (hp : p < 18446744073709551616) (w : World) :
    Calls Tryd.prog 31 #[.int .u64 x, .int .u64 y] w fun e w' => e = .returned (.tuple #[.int .u64 0, .int .u64 (p : Int)]) ∧ w = w' :=
  (mul64_calls x y hx hy w).mono fun e w' ⟨he, hw⟩ => ⟨by rw [he, h, Nat.mod_eq_of_lt hp, Nat.div_eq_of_lt hp]; rfl, hw⟩
theorem mul64_over (x y hi lo : Nat) (hx : x < 18446744073709551616) (hy : y < 18446744073709551616) (h : x * y / 18446744073709551616 = hi) (h' : x * y % 18446744073709551616 = lo) (w : World) :
    Calls Tryd.prog 31 #[.int .u64 x, .int .u64 y] w fun e w' => e = .returned (.tuple #[.int .u64 (hi : Int), .int .u64 (lo : Int)]) ∧ w = w' :=
  (mul64_calls x y hx hy w).mono fun e w' ⟨he, hw⟩ => ⟨by rw [he, h, h'], hw⟩

theorem abs_mul (a b : Int) : a * b = if ((a < 0) ↔ (b < 0)) then ((a.natAbs * b.natAbs : Nat) : Int) else -((a.natAbs * b.natAbs : Nat) : Int) := by
  rw [Int.natCast_mul]
  by_cases ha : a < 0 <;> by_cases hb : b < 0
  · rw [if_pos (by simp [ha, hb]), show (a.natAbs : Int) = -a by omega, show (b.natAbs : Int) = -b by omega, Int.neg_mul_neg]
  · rw [if_neg (by simp [ha, hb]), show (a.natAbs : Int) = -a by omega, show (b.natAbs : Int) = b by omega, Int.neg_mul, Int.neg_neg]
  · rw [if_neg (by simp [ha, hb]), show (a.natAbs : Int) = a by omega, show (b.natAbs : Int) = -b by omega, Int.mul_neg, Int.neg_neg]
  · rw [if_pos (by simp [ha, hb]), show (a.natAbs : Int) = a by omega, show (b.natAbs : Int) = b by omega]

theorem doOk_comm (a b : Int) : doOk 2 b a = doOk 2 a b := by rw [doOk2, doOk2, Int.mul_comm]
theorem doVal_comm (a b : Int) : doVal 2 b a = doVal 2 a b := by unfold doVal; rw [doOk_comm, Int.mul_comm]; simp

theorem fit_mul {a b : Int} {neg : Bool} {p : Nat} (h : a * b = if neg = true then -(p : Int) else p) : fitOk neg p = doOk 2 a b ∧ fitVal neg p = doVal 2 a b := by
  have e : fitOk neg p = doOk 2 a b := by rw [doOk2, h]; rfl
  refine ⟨e, ?_⟩
  unfold fitVal doVal; rw [e]
  by_cases hd : doOk 2 a b = true
  · rw [if_pos hd, if_pos hd]; simp [h]
  · rw [if_neg hd, if_neg hd]
theorem big_mul {a b : Int} (h : 18446744073709551616 ≤ a.natAbs * b.natAbs) : doOk 2 a b = false := by
  rw [doOk2]; apply inR_not; rw [abs_mul]; split <;> omega

set_option maxHeartbeats 800000 in
/-- The walk where the product of the sizes is below 2^64, the sign of the whole decided ahead. -/
theorem products_under (a b : Int) (neg : Bool) (w : World) (hs : Signs w) (ha : -9223372036854775808 ≤ a) (ha' : a ≤ 9223372036854775807) (hb : -9223372036854775808 ≤ b) (hb' : b ≤ 9223372036854775807)
    (p : Nat) (hp : a.natAbs * b.natAbs = p) (hlt : p < 18446744073709551616) (h : a * b = if neg = true then -(p : Int) else p)
    (hneg : ((!decide (a < 0) == decide (b < 0)) = false ∧ neg = false) ∨ ((!decide (a < 0) == decide (b < 0)) = true ∧ (a != 0) = false ∧ neg = false) ∨ ((!decide (a < 0) == decide (b < 0)) = true ∧ (a != 0) = true ∧ (b != 0) = false ∧ neg = false) ∨ ((!decide (a < 0) == decide (b < 0)) = true ∧ (a != 0) = true ∧ (b != 0) = true ∧ neg = true)) :
    Calls Tryd.prog 8 #[.int .i64 a, .int .i64 b] w fun e w' => e = .returned (.bool true) ∧ w = w' := by
  obtain ⟨f1, f2⟩ := fit_mul h
  have g1 := doOk_comm a b
  have g2 := doVal_comm a b
  have hx : a.natAbs < 18446744073709551616 := by omega
  have hy : b.natAbs < 18446744073709551616 := by omega
  have P := Lib.hid hp
  have hp0 : (0 : Int) ≤ (p : Int) := by omega
  have hp1 : (p : Int) ≤ 18446744073709551615 := by omega
  clear hp h
  rcases hneg with ⟨k0, rfl⟩ | ⟨k0, k1, rfl⟩ | ⟨k0, k1, k2, rfl⟩ | ⟨k0, k1, k2, rfl⟩
  all_goals
    go_enter Tryd.func8, Tryd.ntmps8
    go_wp2_with (first | (go_at_call 28; refine (head_calls _ hs).mono ?_; rintro e w' ⟨rfl, rfl⟩) | (go_at_call 29; refine (do_calls _ _ _ _ (by assumption) (by assumption) (by assumption) (by assumption)).mono ?_; rintro e w' ⟨rfl, rfl⟩) | (go_at_call 32; refine (size_calls _ _ (by assumption) (by assumption)).mono ?_; rintro e w' ⟨rfl, rfl⟩) | (go_at_call 31; refine (mul64_under _ _ p (by assumption) (by assumption) P.out hlt _).mono ?_; rintro e w' ⟨rfl, rfl⟩) | (go_at_call 33; refine (fit_calls _ _ _ (by assumption) (by assumption)).mono ?_; rintro e w' ⟨rfl, rfl⟩))
    go_ret
    exact ⟨rfl, rfl⟩

set_option maxHeartbeats 800000 in
theorem products_over (a b : Int) (w : World) (hs : Signs w) (ha : -9223372036854775808 ≤ a) (ha' : a ≤ 9223372036854775807) (hb : -9223372036854775808 ≤ b) (hb' : b ≤ 9223372036854775807)
    (hlt : 18446744073709551616 ≤ a.natAbs * b.natAbs) :
    Calls Tryd.prog 8 #[.int .i64 a, .int .i64 b] w fun e w' => e = .returned (.bool true) ∧ w = w' := by
  have f1 := big_mul hlt
  have f2 := (pair_no f1).1
  have g1 : doOk 2 b a = false := by rw [doOk_comm]; exact f1
  have g2 : doVal 2 b a = 0 := (pair_no g1).1
  have hx : a.natAbs < 18446744073709551616 := by omega
  have hy : b.natAbs < 18446744073709551616 := by omega
  obtain ⟨hi, hhi⟩ : ∃ hi, a.natAbs * b.natAbs / 18446744073709551616 = hi := ⟨_, rfl⟩
  obtain ⟨lo, hlo⟩ : ∃ lo, a.natAbs * b.natAbs % 18446744073709551616 = lo := ⟨_, rfl⟩
  have hne : ((hi : Int) == 0) = false := by simp; omega
  have P := Lib.hid hhi
  have P2 := Lib.hid hlo
  clear hhi hlo hlt
  go_enter Tryd.func8, Tryd.ntmps8
  go_wp2_with (first | (go_at_call 28; refine (head_calls _ hs).mono ?_; rintro e w' ⟨rfl, rfl⟩) | (go_at_call 29; refine (do_calls _ _ _ _ (by assumption) (by assumption) (by assumption) (by assumption)).mono ?_; rintro e w' ⟨rfl, rfl⟩) | (go_at_call 32; refine (size_calls _ _ (by assumption) (by assumption)).mono ?_; rintro e w' ⟨rfl, rfl⟩) | (go_at_call 31; refine (mul64_over _ _ hi lo (by assumption) (by assumption) P.out P2.out _).mono ?_; rintro e w' ⟨rfl, rfl⟩))
  go_ret
  exact ⟨rfl, rfl⟩

theorem products_walk (a b : Int) (w : World) (hs : Signs w) (ha : -9223372036854775808 ≤ a) (ha' : a ≤ 9223372036854775807) (hb : -9223372036854775808 ≤ b) (hb' : b ≤ 9223372036854775807) :
    Calls Tryd.prog 8 #[.int .i64 a, .int .i64 b] w fun e w' => e = .returned (.bool true) ∧ w = w' := by
  by_cases hlt : a.natAbs * b.natAbs < 18446744073709551616
  · have hm := abs_mul a b
    by_cases hsg : (a < 0) ↔ (b < 0)
    · refine products_under a b false w hs ha ha' hb hb' _ rfl hlt (by rw [hm, if_pos hsg]; rfl) (.inl ⟨?_, rfl⟩)
      simp only [hsg]; simp
    · have k0 : (!decide (a < 0) == decide (b < 0)) = true := by simpa using hsg
      by_cases h0 : a = 0
      · refine products_under a b false w hs ha ha' hb hb' _ rfl hlt (by simp [h0]) (.inr (.inl ⟨k0, by simp [h0], rfl⟩))
      · by_cases h1 : b = 0
        · refine products_under a b false w hs ha ha' hb hb' _ rfl hlt (by simp [h1]) (.inr (.inr (.inl ⟨k0, by simpa using h0, by simp [h1], rfl⟩)))
        · refine products_under a b true w hs ha ha' hb hb' _ rfl hlt (by rw [hm, if_neg hsg]; rfl) (.inr (.inr (.inr ⟨k0, by simpa using h0, by simpa using h1, rfl⟩)))
  · exact products_over a b w hs ha ha' hb hb' (by omega)
end Go.Proofs.YtfcjiiogigfjkaaDoor
