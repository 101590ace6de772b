/- Contract of the statements' own Is. -/
import Derived.Test.YtcecndjkfdaaaaaDoorSg14
namespace Go.Proofs.YtcecndjkfdaaaaaDoor
open Go.RowKit
set_option linter.unusedVariables false
set_option linter.unusedSimpArgs false

set_option maxRecDepth 100000 in
set_option maxHeartbeats 2000000 in
theorem is_calls {w : World} {p : Option Addr} {wd : Nat} {xs : List (List Int)} (h : Seg w p wd xs) (a : Option Addr) (cap : Nat) (A : List RV) (hR : RRow w a A) (hwd : wd ≤ 1000) (hx : xs.length ≤ 1000) (he : xs = A.map (·.2.1)) :
    Calls Tryd.prog 16 #[.pointer p, .slice a A.length cap] w (TrueRet5 w) := by
  have HS := Lib.hid h
  have HR := Lib.hid hR
  have hl : xs.length = A.length := by rw [he]; simp
  have HE : Hid (∀ i, i < A.length → rowAt xs i = (atV A i).2.1) := Lib.hid (fun i hi => by rw [he]; exact map_atV hi)
  have HW0 : Hid (∀ i, i < xs.length → (rowAt xs i).length = wd) := Lib.hid (fun i hi => h.2.1 _ (rowAt_mem hi))
  obtain ⟨B, hB⟩ : ∃ B, w.heap.size = B := ⟨_, rfl⟩
  have HB := Lib.hid hB
  have cl := segLen_calls h
  rw [hl] at cl
  clear h hR hB he
  go_enter Tryd.func16, Tryd.ntmps16
  go_wp2_with fail
  refine cl.mono ?_
  rintro e w' ⟨rfl, rfl⟩
  clear cl
  go_wp2_with fail
  go_loopw [14] (fun s wr => ∃ k : Nat, k ≤ A.length ∧ s = .int .i64 k ∧ Hid (Below B w wr)) (fun s _ => A.length - (intOf s).toNat)
  case atStart => exact ⟨0, Nat.zero_le _, rfl, Lib.hid (Below.refl _ _)⟩
  case round =>
    obtain ⟨k, hk, rfl, HW⟩ := hrel
    have hBr : B ≤ wr.heap.size := by have := HW.out.size; rw [HB.out] at this; exact this
    by_cases hlt : k < A.length
    · obtain ⟨b, off, rfl, hb, hcell, hrow, _⟩ := (HR.out.belowB HB.out HW.out).at hlt
      have cr := segRow_calls (HS.out.belowB HB.out HW.out) k (by omega) hwd (by omega)
      have hek := HE.out k hlt
      have hwk := HW0.out k (by omega)
      have q1 : (k : Int) < (A.length : Int) := by omega
      have q2 : (0 : Int) ≤ (k : Int) := by omega
      obtain ⟨r, hr⟩ : ∃ r, rowAt xs k = r := ⟨_, rfl⟩
      rw [hr] at cr hek hwk
      rw [← hek] at hcell hrow
      have HRO := Lib.hid hrow
      have HWK := Lib.hid hwk
      clear hr hek hrow hwk
      go_wp2_with fail
      refine cr.mono ?_
      rintro e w2 ⟨na, nc, rfl, hr2, _, hb2⟩
      have cc := lawCompare_calls na (atV A k).1 nc (atV A k).2.2 r r w2 hr2 (HRO.out.below hb2) (by rw [HWK.out]; omega) (by rw [HWK.out]; omega)
      rw [cmpR_self] at cc
      have HW2 : Hid (Below B w w2) := Lib.hid (HW.out.trans (hb2.mono hBr))
      clear cr hr2 hb2
      go_wp2_with fail
      refine cc.mono ?_
      rintro e w3 ⟨rfl, q3, rfl⟩
      clear cc
      go_wp2_with fail
      go_roundw
      case rel => exact ⟨k + 1, by omega, by go_num, Lib.hid (below_drewN HW2.out q3)⟩
      case measure => simp [intOf]; omega
    · obtain rfl : k = A.length := by omega
      go_wp2_with fail
      go_ret
      exact ⟨rfl, by rw [HB.out]; exact HW.out⟩
end Go.Proofs.YtcecndjkfdaaaaaDoor
