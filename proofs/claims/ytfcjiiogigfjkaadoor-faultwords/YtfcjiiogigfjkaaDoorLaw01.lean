/- The helpers of the statements on package fault: digits, word. -/
import Derived.Test.YtfcjiiogigfjkaaDoorFaultErr3
import Derived.Test.YtfcjiiogigfjkaaDoorFaultIs
import Derived.Laws.BytesString
namespace Go.Proofs.YtfcjiiogigfjkaaDoor
open Go.RowKit Go.Extern.Stop Go.Stop Go.Extern
set_option linter.unusedVariables false

/-- What is gathered so far, r, and what is left, m, make up the digits of u. -/
def Dig (u m : Nat) (r : List UInt8) : Prop := if m = 0 then r = Lib.decDigits u else Lib.decDigits m ++ r = Lib.decDigits u
theorem dig_step {u m : Nat} {r : List UInt8} (h : Dig u m r) (hm : m ≠ 0) : Dig u (m / 10) (UInt8.ofNat (48 + m % 10) :: r) := by
  unfold Dig at *
  rw [if_neg hm] at h
  by_cases h10 : m < 10
  · rw [if_pos (by omega)]
    rw [Lib.decDigits, dif_pos h10] at h
    rw [Nat.mod_eq_of_lt h10]; simpa using h
  · rw [if_neg (by omega)]
    rw [Lib.decDigits, dif_neg h10] at h
    simpa using h
theorem dig_end {u : Nat} {r : List UInt8} (h : Dig u 0 r) : r = Lib.decDigits u := by simpa [Dig] using h

theorem dig_len {u m : Nat} {r : List UInt8} (h : Dig u m r) (hu : u < 18446744073709551616) : r.length ≤ 20 := by
  have h1 := Lib.nDigits_le20 u hu
  have h2 := Lib.decDigits_length u
  unfold Dig at h
  split at h
  · rw [h]; omega
  · have := congrArg List.length h
    simp at this; omega
theorem byte_add (k : Nat) : (48 : UInt8) + UInt8.ofNat k = UInt8.ofNat (48 + k) := by rw [UInt8.ofNat_add]; rfl
theorem one_byte (n : Int) (w : World) : (convert 69 9 (.slice (some ⟨w.heap.size, 0, none⟩) 1 1)).run Tryd.prog (w.alloc (.cells #[.int .u8 n] 5)) = .ok (.string ⟨#[UInt8.ofNat n.toNat]⟩) (w.alloc (.cells #[.int .u8 n] 5)) := by
  rw [run_convert_bytes_string _ _ _ _ _ _ _ Tryd.underlying69 Tryd.underlying5 Tryd.underlying9, run_bytesToString _ _ _ _ [n] ?_]
  · rfl
  · simp [loadCells, loadCellsFrom, Addr.add]

set_option maxRecDepth 100000 in
set_option maxHeartbeats 1000000 in
theorem digits_pos (u : Nat) (w : World) (h1 : 1 ≤ u) (h2 : (u : Int) ≤ 9223372036854775807) :
    Calls Tryd.prog 21 #[.int .i64 u] w fun e w' => e = .returned (.string ⟨(Lib.decDigits u).toArray⟩) ∧ Ext w w' := by
  have hne : ((u : Int) == 0) = false := by simp; omega
  go_enter Tryd.func21, Tryd.ntmps21
  go_wp2_with fail
  go_loopw [3, 4, 5] (fun s k d wr => ∃ (m : Nat) (r : List UInt8), k = .int .i64 m ∧ s = .string ⟨r.toArray⟩ ∧ m ≤ u ∧ Dig u m r ∧ Ext w wr) (fun _ k _ _ => (intOf k).toNat)
  case atStart => exact ⟨u, [], rfl, rfl, Nat.le_refl _, by simp [Dig]; omega, Ext.refl _⟩
  case round =>
    obtain ⟨m, r, rfl, rfl, hm, hD, hE⟩ := hrel
    have hr := dig_len hD (by omega)
    have DD := Lib.hid hD
    have EE := Lib.hid hE
    clear hD hE
    by_cases h0 : m = 0
    · subst h0
      go_wp2_with fail
      go_ret
      exact ⟨ret_bytes (by rw [dig_end DD.out]), EE.out⟩
    · have hk : ((m : Int) != 0) = true := by simp; omega
      have ob := one_byte (48 + (m : Int) % 10) wr
      go_wp2_with fail
      go_roundw
      case rel => exact ⟨m / 10, UInt8.ofNat (48 + m % 10) :: r, by go_num, by rw [byte_add]; exact congrArg Value.string (ByteArray.mk_append_mk [_] r), by omega, dig_step DD.out h0, EE.out.alloc _⟩
      case measure => simp [intOf]; omega

theorem neg_rem (m : Nat) : (-(m : Int)).tmod 10 = -((m : Int) % 10) := by rw [Int.neg_tmod, Int.tmod_eq_emod_of_nonneg (by omega)]
theorem neg_quo (m : Nat) : (-(m : Int)).tdiv 10 = -((m : Int) / 10) := by rw [Int.neg_tdiv, Int.tdiv_eq_ediv_of_nonneg (by omega)]

set_option maxRecDepth 100000 in
set_option maxHeartbeats 1000000 in
theorem digits_neg (u : Nat) (w : World) (h1 : 1 ≤ u) (h2 : (u : Int) ≤ 9223372036854775808) :
    Calls Tryd.prog 21 #[.int .i64 (-(u : Int))] w fun e w' => e = .returned (.string ⟨(45 :: Lib.decDigits u).toArray⟩) ∧ Ext w w' := by
  have hne : (-(u : Int) == 0) = false := by simp; omega
  have hlt : decide (-(u : Int) < 0) = true := by simp; omega
  have hlt' : -(u : Int) < 0 := by omega
  go_enter Tryd.func21, Tryd.ntmps21
  go_wp2_with fail
  go_loopw [3, 4, 5] (fun s k d wr => ∃ (m : Nat) (r : List UInt8), k = .int .i64 (-(m : Int)) ∧ s = .string ⟨r.toArray⟩ ∧ m ≤ u ∧ Dig u m r ∧ Ext w wr) (fun _ k _ _ => (-(intOf k)).toNat)
  case atStart => exact ⟨u, [], rfl, rfl, Nat.le_refl _, by simp [Dig]; omega, Ext.refl _⟩
  case round =>
    obtain ⟨m, r, rfl, rfl, hm, hD, hE⟩ := hrel
    have hr := dig_len hD (by omega)
    have DD := Lib.hid hD
    have EE := Lib.hid hE
    clear hD hE
    by_cases h0 : m = 0
    · subst h0
      go_wp2_with fail
      go_ret
      exact ⟨ret_bytes (by rw [dig_end DD.out]; exact ByteArray.mk_append_mk [45] _), EE.out⟩
    · have hk : (-(m : Int) != 0) = true := by simp; omega
      have e2 := neg_quo m
      by_cases hz : m % 10 = 0
      · have e1 : (-(m : Int)).tmod 10 = 0 := by rw [neg_rem]; omega
        have ob := one_byte 48 wr
        have Z := Lib.hid hz
        clear hz
        go_wp2_with fail
        go_roundw
        case rel => exact ⟨m / 10, UInt8.ofNat (48 + m % 10) :: r, by go_num, by rw [Z.out]; exact congrArg Value.string (ByteArray.mk_append_mk [_] r), by omega, dig_step DD.out h0, EE.out.alloc _⟩
        case measure => simp [intOf]; omega
      · have e1 := neg_rem m
        have ob := one_byte (48 + (m : Int) % 10) wr
        have hd : decide (-((m : Int) % 10) < 0) = true := by simp; omega
        have hd' : -((m : Int) % 10) < 0 := by omega
        go_wp2_with fail
        go_roundw
        case rel => exact ⟨m / 10, UInt8.ofNat (48 + m % 10) :: r, by go_num, by rw [byte_add]; exact congrArg Value.string (ByteArray.mk_append_mk [_] r), by omega, dig_step DD.out h0, EE.out.alloc _⟩
        case measure => simp [intOf]; omega

theorem digits_calls (n : Int) (w : World) (h0 : -9223372036854775808 ≤ n) (h1 : n ≤ 9223372036854775807) :
    Calls Tryd.prog 21 #[.int .i64 n] w fun e w' => e = .returned (.string ⟨(Lib.itoa n).toArray⟩) ∧ Ext w w' := by
  rcases Int.lt_trichotomy n 0 with h | rfl | h
  · have := digits_neg n.natAbs w (by omega) (by omega)
    rw [show -(n.natAbs : Int) = n by omega] at this
    rw [show Lib.itoa n = 45 :: Lib.decDigits n.natAbs from if_pos h]
    exact this
  · go_enter Tryd.func21, Tryd.ntmps21
    go_wp2_with fail
    go_ret
    exact ⟨ret_bytes (by rw [show Lib.itoa 0 = [48] by simp [Lib.itoa, Lib.decDigits]]), Ext.refl _⟩
  · have := digits_pos n.toNat w (by omega) (by omega)
    rw [show (n.toNat : Int) = n by omega] at this
    rw [show Lib.itoa n = Lib.decDigits n.toNat from if_neg (by omega)]
    exact this
end Go.Proofs.YtfcjiiogigfjkaaDoor
