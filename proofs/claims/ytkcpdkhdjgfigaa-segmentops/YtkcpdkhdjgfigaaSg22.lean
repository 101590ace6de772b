/- Contracts of the law's own in and Is. -/
import Derived.Test.YtkcpdkhdjgfigaaSg21
import Derived.Test.YtkcpdkhdjgfigaaSg14
namespace Go.Proofs.Ytkcpdkhdjgfigaa
open Go.RowKit
set_option linter.unusedVariables false
set_option linter.unusedSimpArgs false

theorem cmpR_zero (a b : List Int) : cmpR a b = 0 ↔ a = b := ⟨cmpR_eq, fun h => by rw [h, cmpR_self]⟩

set_option maxRecDepth 100000 in
set_option maxHeartbeats 2000000 in
theorem in_calls (a : Option Addr) (cap : Nat) (A : List RV) (ra : Option Addr) (rc : Nat) (r : List Int) (w : World) (hR : RRow w a A) (hr : Row w ra r) (hA : A.length ≤ 1000) (hlen : ∀ x ∈ A, x.2.1.length ≤ 1000000) (hrl : r.length ≤ 1000000) :
    Calls Try.prog 19 #[.slice a A.length cap, .slice ra r.length rc] w (Quiet (.bool (decide (r ∈ A.map (·.2.1)))) w) := by
  have HR := Lib.hid hR
  have HRW := Lib.hid hr
  have HLn := Lib.hid hlen
  clear hR hr hlen
  go_enter Try.func19, Try.ntmps19
  go_wp2_with fail
  go_loopw [9] (fun s wr => ∃ k q : Nat, k ≤ A.length ∧ s = .int .i64 k ∧ Hid (∀ i, i < k → (atV A i).2.1 ≠ r) ∧ Hid (wr = w.drewN q)) (fun s _ => A.length - (intOf s).toNat)
  case atStart => exact ⟨0, 0, Nat.zero_le _, rfl, Lib.hid (fun i hi => by omega), Lib.hid rfl⟩
  case round =>
    obtain ⟨k, q, hk, rfl, HN, HW⟩ := hrel
    by_cases hlt : k < A.length
    · obtain ⟨b, off, rfl, hb, hcell, hrow, _⟩ := ((show RRow wr a A by rw [HW.out]; exact HR.out.drewN q)).at hlt
      have M := atV_mem hlt
      have cc := lawCompare_calls (atV A k).1 ra (atV A k).2.2 rc (atV A k).2.1 r wr hrow (by rw [HW.out]; exact HRW.out) (HLn.out _ M) hrl
      have q1 : (k : Int) < (A.length : Int) := by omega
      have q2 : (0 : Int) ≤ (k : Int) := by omega
      by_cases he : (atV A k).2.1 = r
      · have R : Hid (decide (r ∈ A.map (·.2.1)) = true) := Lib.hid (decide_eq_true (List.mem_map.2 ⟨_, M, he⟩))
        rw [(cmpR_zero _ _).2 he] at cc
        clear he hrow M
        go_wp2_with fail
        refine cc.mono ?_
        rintro e w2 ⟨rfl, q2, hw2⟩
        go_wp2_with fail
        go_ret
        exact ⟨ret_b R.out.symm, _, by first | exact drewM HW.out | (rw [hw2]; exact drewM HW.out)⟩
      · have HN2 : Hid (∀ i, i < k + 1 → (atV A i).2.1 ≠ r) := Lib.hid (fun i hi => by
          rcases Nat.lt_or_ge i k with h | h
          · exact HN.out i h
          · obtain rfl : i = k := by omega
            exact he)
        obtain ⟨cv, hcv⟩ : ∃ cv, cmpR (atV A k).2.1 r = cv := ⟨_, rfl⟩
        rw [hcv] at cc
        have t1 : (cv == 0) = false := beq_eq_false_iff_ne.2 (fun h => he ((cmpR_zero _ _).1 (by rw [hcv, h])))
        clear he hrow M hcv
        go_wp2_with fail
        refine cc.mono ?_
        rintro e w2 ⟨rfl, q3, hw2⟩
        have HW2 : Hid (w2 = w.drewN (q + q3)) := Lib.hid (by rw [hw2]; exact drewM HW.out)
        clear cc hw2
        go_wp2_with fail
        go_roundw
        case rel => exact ⟨k + 1, _, by omega, by go_num, HN2, HW2⟩
        case measure => simp [intOf]; omega
    · obtain rfl : k = A.length := by omega
      have R : Hid (decide (r ∈ A.map (·.2.1)) = false) := Lib.hid (decide_eq_false (fun h => by
        obtain ⟨x, hx, e⟩ := List.mem_map.1 h
        obtain ⟨i, hi, e2⟩ := List.getElem_of_mem hx
        exact HN.out i hi (by rw [show atV A i = x by rw [atV_eq hi]; exact e2]; exact e)))
      go_wp2_with fail
      go_ret
      exact ⟨ret_b R.out.symm, _, HW.out⟩

set_option maxRecDepth 100000 in
set_option maxHeartbeats 2000000 in
theorem is_calls {w : World} {p : Option Addr} {wd : Nat} {xs : List (List Int)} (h : Seg w p wd xs) (a : Option Addr) (cap : Nat) (A : List RV) (hR : RRow w a A) (hwd : wd ≤ 1000) (hx : xs.length ≤ 1000) (he : xs = A.map (·.2.1)) :
    Calls Try.prog 20 #[.pointer p, .slice a A.length cap] w (TrueRet5 w) := by
  have HS := Lib.hid h
  have HR := Lib.hid hR
  have hl : xs.length = A.length := by rw [he]; simp
  have HE : Hid (∀ i, i < A.length → rowAt xs i = (atV A i).2.1) := Lib.hid (fun i hi => by rw [he]; exact map_atV hi)
  have HW0 : Hid (∀ i, i < xs.length → (rowAt xs i).length = wd) := Lib.hid (fun i hi => h.2.1 _ (rowAt_mem hi))
  obtain ⟨B, hB⟩ : ∃ B, w.heap.size = B := ⟨_, rfl⟩
  have HB := Lib.hid hB
  have cl := segLen_calls h
  rw [hl] at cl
  clear h hR hB he
  go_enter Try.func20, Try.ntmps20
  go_wp2_with fail
  refine cl.mono ?_
  rintro e w' ⟨rfl, rfl⟩
  clear cl
  go_wp2_with fail
  go_loopw [14] (fun s wr => ∃ k : Nat, k ≤ A.length ∧ s = .int .i64 k ∧ Hid (Below B w wr)) (fun s _ => A.length - (intOf s).toNat)
  case atStart => exact ⟨0, Nat.zero_le _, rfl, Lib.hid (Below.refl _ _)⟩
  case round =>
    obtain ⟨k, hk, rfl, HW⟩ := hrel
    have hBr : B ≤ wr.heap.size := by have := HW.out.size; rw [HB.out] at this; exact this
    by_cases hlt : k < A.length
    · obtain ⟨b, off, rfl, hb, hcell, hrow, _⟩ := (HR.out.belowB HB.out HW.out).at hlt
      have cr := segRow_calls (HS.out.belowB HB.out HW.out) k (by omega) hwd (by omega)
      have hek := HE.out k hlt
      have hwk := HW0.out k (by omega)
      have q1 : (k : Int) < (A.length : Int) := by omega
      have q2 : (0 : Int) ≤ (k : Int) := by omega
      obtain ⟨r, hr⟩ : ∃ r, rowAt xs k = r := ⟨_, rfl⟩
      rw [hr] at cr hek hwk
      rw [← hek] at hcell hrow
      have HRO := Lib.hid hrow
      have HWK := Lib.hid hwk
      clear hr hek hrow hwk
      go_wp2_with fail
      refine cr.mono ?_
      rintro e w2 ⟨na, nc, rfl, hr2, _, hb2⟩
      have cc := lawCompare_calls na (atV A k).1 nc (atV A k).2.2 r r w2 hr2 (HRO.out.below hb2) (by rw [HWK.out]; omega) (by rw [HWK.out]; omega)
      rw [cmpR_self] at cc
      have HW2 : Hid (Below B w w2) := Lib.hid (HW.out.trans (hb2.mono hBr))
      clear cr hr2 hb2
      go_wp2_with fail
      refine cc.mono ?_
      rintro e w3 ⟨rfl, q3, rfl⟩
      clear cc
      go_wp2_with fail
      go_roundw
      case rel => exact ⟨k + 1, by omega, by go_num, Lib.hid (below_drewN HW2.out q3)⟩
      case measure => simp [intOf]; omega
    · obtain rfl : k = A.length := by omega
      go_wp2_with fail
      go_ret
      exact ⟨rfl, by rw [HB.out]; exact HW.out⟩
end Go.Proofs.Ytkcpdkhdjgfigaa
