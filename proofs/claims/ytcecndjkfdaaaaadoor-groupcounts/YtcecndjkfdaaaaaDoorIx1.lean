/- Contracts of index's room and hash. -/
import Derived.Test.YtcecndjkfdaaaaaDoorSg1
import Derived.Test.YtcecndjkfdaaaaaDoorIxMath
namespace Go.Proofs.YtcecndjkfdaaaaaDoor
open Go.RowKit
set_option linter.unusedVariables false
set_option linter.unusedSimpArgs false

/-- A power of two, not great. -/
def Pow2 (m : Nat) : Prop := ∃ k, k ≤ 12 ∧ m = 2 ^ k
theorem Pow2.double {m : Nat} (h : Pow2 m) (hm : m ≤ 2000) : Pow2 (2 * m) := by
  obtain ⟨k, hk, rfl⟩ := h
  refine ⟨k + 1, ?_, by rw [Nat.pow_succ]; omega⟩
  rcases Nat.lt_or_ge k 12 with h | h
  · omega
  · obtain rfl : k = 12 := by omega
    simp at hm
def RoomRet (n : Nat) (w : World) (e : Ending) (w' : World) : Prop := ∃ m : Nat, e = .returned (.int .i64 m) ∧ Pow2 m ∧ 2 * n ≤ m ∧ 1 ≤ m ∧ m ≤ 4096 ∧ w = w'
set_option maxRecDepth 100000 in
theorem room_calls (n : Nat) (hn : n ≤ 1000) (w : World) : Calls Tryd.prog 45 #[.int .i64 n] w (RoomRet n w) := by
  go_enter Tryd.func45, Tryd.ntmps45
  go_wp2_with fail
  go_loop [3] (fun s => ∃ m : Nat, s = .int .i64 m ∧ 1 ≤ m ∧ m ≤ 4000 ∧ Hid (Pow2 m)) (fun s => 2 * n - (intOf s).toNat)
  case atStart => exact ⟨1, rfl, by omega, by omega, Lib.hid ⟨0, by omega, rfl⟩⟩
  case round =>
    obtain ⟨m, rfl, h1, h2, HP⟩ := hrel
    by_cases hlt : m < 2 * n
    · have t1 : decide ((m : Int) < 2 * (n : Int)) = true := decide_eq_true (by omega)
      have P' : Hid (Pow2 (2 * m)) := Lib.hid (HP.out.double (by omega))
      go_wp2_with fail
      go_round
      case rel => exact ⟨2 * m, by go_num, by omega, by omega, P'⟩
      case measure => simp [intOf]; omega
    · have t1 : decide ((m : Int) < 2 * (n : Int)) = false := decide_eq_false (by omega)
      go_wp2_with fail
      go_ret
      exact ⟨m, rfl, HP.out, by omega, h1, by omega, rfl⟩
theorem ret_u {a b : Int} (h : a = b) : Ending.returned (.int .u64 a) = .returned (.int .u64 b) := by rw [h]
/-- A step of the hash, and the hash. -/
def hstep (h v : Int) : Int :=
  let a := IntKind.u64.wrap (bits .xor .u64 h (IntKind.u64.wrap v) + 11400714819323198485)
  let b := IntKind.u64.wrap (bits .xor .u64 a (a / 1073741824) * 13787848793156543929)
  let c := IntKind.u64.wrap (bits .xor .u64 b (b / 134217728) * 10723151780598845931)
  bits .xor .u64 c (c / 2147483648)
def hashL (l : List Int) : Int := l.foldl hstep 0
set_option maxRecDepth 100000 in
theorem hash_calls (a : Option Addr) (cap : Nat) (xs : List Int) (w : World) (ha : Row w a xs) (hx : xs.length ≤ 1000000) : Calls Tryd.prog 60 #[.slice a xs.length cap] w fun e w' => e = .returned (.int .u64 (hashL xs)) ∧ w = w' := by
  have HA := Lib.hid ha
  clear ha
  go_enter Tryd.func60, Tryd.ntmps60
  go_wp2_with fail
  go_loop [8, 3] (fun s t => ∃ (k : Nat) (h : Int), k ≤ xs.length ∧ s = .int .i64 k ∧ t = .int .u64 h ∧ Hid (h = hashL (xs.take k))) (fun s t => xs.length - (intOf s).toNat)
  case atStart => exact ⟨0, 0, by omega, rfl, rfl, Lib.hid rfl⟩
  case round =>
    obtain ⟨k, h, hk, rfl, rfl, HH⟩ := hrel
    by_cases hlt : k < xs.length
    · obtain ⟨b, off, rfl, hb, hc⟩ := HA.out.at hlt
      have T : Hid (xs.take (k + 1) = xs.take k ++ [xs[k]?.getD 0]) := Lib.hid (by rw [List.take_succ_eq_append_getElem hlt, List.getElem?_eq_getElem hlt]; rfl)
      generalize xs[k]?.getD 0 = z at *
      go_wp2_with fail
      go_round
      case rel => exact ⟨k+1, hstep h z, by omega, by go_num, rfl, Lib.hid (by rw [T.out, hashL, List.foldl_append, HH.out]; rfl)⟩
      case measure => simp [intOf]; omega
    · have E : Hid (h = hashL xs) := Lib.hid (by have := HH.out; rw [List.take_of_length_le (by omega)] at this; exact this)
      go_wp2_with fail
      go_ret
      exact ⟨ret_u E.out, rfl⟩
theorem ofInt_toNat (x : Int) : (BitVec.ofInt 64 x).toNat = (x % 18446744073709551616).toNat := by
  rw [BitVec.toNat_ofInt]; rfl
theorem pow_le12 {k : Nat} (h : k ≤ 12) : 2 ^ k ≤ 4096 := Nat.pow_le_pow_right (by omega) h
theorem pow_pos' (k : Nat) : 1 ≤ 2 ^ k := Nat.one_le_two_pow
theorem maskN {M : Nat} (h : Pow2 M) (y : Int) (hy : y = (M : Int) - 1) : (BitVec.ofInt 64 y).toNat = M - 1 ∧ 1 ≤ M ∧ M ≤ 4096 := by
  obtain ⟨k, hk, rfl⟩ := h
  have h1 := pow_le12 hk
  have h2 := pow_pos' k
  rw [ofInt_toNat, hy]
  omega
theorem maskU {M : Nat} (h : Pow2 M) (x : Int) : bits .and .u64 x ((M : Int) - 1) = (((x % 18446744073709551616).toNat % M : Nat) : Int) := by
  show IntKind.u64.wrap ((BitVec.ofInt 64 x &&& BitVec.ofInt 64 ((M : Int) - 1)).toNat : Int) = _
  obtain ⟨e, h1, h2⟩ := maskN h _ rfl
  rw [BitVec.toNat_and, ofInt_toNat, e]
  obtain ⟨k, hk, rfl⟩ := h
  rw [Nat.and_two_pow_sub_one_eq_mod]
  have : (x % 18446744073709551616).toNat % 2 ^ k < 2 ^ k := Nat.mod_lt _ (by omega)
  rw [IntKind.wrap_u64]
  omega
theorem maskI {M : Nat} (h : Pow2 M) (x : Nat) (hx : x ≤ 100000) : bits .and .i64 (x : Int) ((M : Int) - 1) = ((x % M : Nat) : Int) := by
  show IntKind.i64.wrap ((BitVec.ofInt 64 x &&& BitVec.ofInt 64 ((M : Int) - 1)).toNat : Int) = _
  obtain ⟨e, h1, h2⟩ := maskN h _ rfl
  rw [BitVec.toNat_and, ofInt_toNat, e]
  obtain ⟨k, hk, rfl⟩ := h
  rw [Nat.and_two_pow_sub_one_eq_mod]
  have e2 : ((x : Int) % 18446744073709551616).toNat = x := by omega
  have : x % 2 ^ k < 2 ^ k := Nat.mod_lt _ (by omega)
  rw [e2, IntKind.wrap_i64]
  omega
/-- The slot where the search for a key begins. -/
def homeOf (M : Nat) (κ : List Int) : Nat := (hashL κ % 18446744073709551616).toNat % M
end Go.Proofs.YtcecndjkfdaaaaaDoor
