/- The law's same: rows of pairs compared. -/
import Derived.Test.YtcecndjkfdaaaaaJn1
namespace Go.Proofs.Ytcecndjkfdaaaaa
open Go.RowKit
set_option linter.unusedVariables false
set_option linter.unusedSimpArgs false

set_option maxRecDepth 100000 in
set_option maxHeartbeats 2000000 in
/-- Two rows that read as the same pairs are the same. -/
theorem same_calls {w : World} {a b : Option Addr} {ca cb : Nat} {ps : List (Int × Int)} (ha : PRow w a ps) (hb : PRow w b ps) (hl : ps.length ≤ 100000000) :
    Calls Try.prog 16 #[.slice a ps.length ca, .slice b ps.length cb] w (Quiet (.bool true) w) := by
  have HA := Lib.hid ha
  have HB := Lib.hid hb
  have t0 : ((ps.length : Int) != (ps.length : Int)) = false := by simp
  clear ha hb
  go_enter Try.func16, Try.ntmps16
  go_wp2_with fail
  go_loopw [13] (fun s wr => ∃ k q : Nat, s = .int .i64 k ∧ k ≤ ps.length ∧ Hid (wr = w.drewN q)) (fun s _ => ps.length - (intOf s).toNat)
  case atStart => exact ⟨0, 0, rfl, Nat.zero_le _, Lib.hid rfl⟩
  case round =>
    obtain ⟨k, q, rfl, hk, HW⟩ := hrel
    by_cases hlt : k < ps.length
    · obtain ⟨b1, o1, rfl, h1, c1, c2⟩ := HA.out.at hlt
      obtain ⟨b2, o2, rfl, h2, c3, c4⟩ := HB.out.at hlt
      have d1 : wr.cell? ⟨b1, o1 + k * 2, none⟩ = some (.int .i64 (atP ps k).1) := by rw [HW.out]; exact c1
      have d2 : wr.cell? ⟨b1, o1 + k * 2 + 1, none⟩ = some (.int .i64 (atP ps k).2) := by rw [HW.out]; exact c2
      have d3 : wr.cell? ⟨b2, o2 + k * 2, none⟩ = some (.int .i64 (atP ps k).1) := by rw [HW.out]; exact c3
      have d4 : wr.cell? ⟨b2, o2 + k * 2 + 1, none⟩ = some (.int .i64 (atP ps k).2) := by rw [HW.out]; exact c4
      clear c1 c2 c3 c4
      generalize (atP ps k).1 = x at *
      generalize (atP ps k).2 = y at *
      go_wp2_with fail
      go_quiet (fail)
      go_wp2_with fail
      go_roundw
      case rel => exact ⟨k + 1, _, by go_num, by omega, Lib.hid (drewM HW.out)⟩
      case measure => simp [intOf]; omega
    · have tl : decide (k < ps.length) = false := decide_eq_false hlt
      go_wp2_with fail
      go_ret
      exact ⟨rfl, q, HW.out⟩
end Go.Proofs.Ytcecndjkfdaaaaa
