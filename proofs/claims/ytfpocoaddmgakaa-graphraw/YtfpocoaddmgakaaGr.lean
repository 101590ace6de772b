/- The walk of GraphRaw. -/
import Derived.Test.YtfpocoaddmgakaaBArg
namespace Go.Proofs.Ytfpocoaddmgakaa
open Go.RowKit
set_option linter.unusedVariables false
set_option linter.unusedSimpArgs false

set_option maxRecDepth 100000 in
set_option maxHeartbeats 4000000 in
theorem raw_walk (cap : Nat) {a : Option Addr} {A : List RV} {w : World} (hA : NestArgs w a A) (hR : ∀ x ∈ A, InRange x.2.1) (t : Int) : Calls Try.prog 4 #[.slice a A.length cap, .int .i64 t] w fun e w' => e = .returned (.bool true) ∧ Below w.heap.size w w' := by
  have c1 := head_calls w
  have HA0 := Lib.hid hA
  clear hA hR
  go_enter Try.func4, Try.ntmps4
  by_cases hl : A.length ≤ 12
  · have q1 : decide ((12 : Int) < (A.length : Int)) = false := decide_eq_false (by omega)
    go_upto_region 5 with (first | (go_at_call 7; refine c1.mono ?_; rintro e w1 ⟨rfl, hb1⟩; have HB1 := Lib.hid hb1; clear hb1))
    have HA := Lib.hid (HA0.out.1.below HB1.out)
    have HML := Lib.hid HA0.out.2.2
    clear c1 HA0
    go_wp2_with fail
    have D0 : Hid (∀ i, i < 0 → (edgesOf A i).length ≤ 20) := Lib.hid (fun i hi => by omega)
    go_loopw [18, 6] (fun s18 _ wv => ∃ j : Nat, j ≤ A.length ∧ s18 = .int .i64 j ∧ w1 = wv ∧ Hid (∀ i, i < j → (edgesOf A i).length ≤ 20)) (fun s18 _ _ => A.length - (intOf s18).toNat)
    case atStart => exact ⟨0, Nat.zero_le _, rfl, rfl, D0⟩
    case round =>
      obtain ⟨j, hj, rfl, rfl, HD⟩ := hrel
      clear D0
      by_cases hlj : j < A.length
      · have j0 : (0 : Int) ≤ (j : Int) := by omega
        have j1 : (j : Int) < (A.length : Int) := by omega
        obtain ⟨g, off, rfl, hg, hc, _, _⟩ := HA.out.at hlj
        obtain ⟨x1, hx1⟩ : ∃ x, (atV A j).1 = x := ⟨_, rfl⟩
        obtain ⟨x2, hx2⟩ : ∃ x, (atV A j).2.1.length = x := ⟨_, rfl⟩
        obtain ⟨x3, hx3⟩ : ∃ x, (atV A j).2.2 = x := ⟨_, rfl⟩
        rw [hx1, hx2, hx3] at hc
        have HX := Lib.hid hx2
        clear hx1 hx2 hx3
        by_cases hs : x2 ≤ 20
        · have q2 : decide ((20 : Int) < (x2 : Int)) = false := decide_eq_false (by omega)
          have HD2 : Hid (∀ i, i < j + 1 → (edgesOf A i).length ≤ 20) := Lib.hid (fun i hi => by
            by_cases e : i = j
            · subst e; show (atV A i).2.1.length ≤ 20; rw [HX.out]; exact hs
            · exact HD.out i (by omega))
          clear HD
          go_wp2_with fail
          go_roundw
          case rel => exact ⟨j + 1, by omega, by go_num, trivial, HD2⟩
          case measure => simp [intOf]; omega
        · have q2 : decide ((20 : Int) < (x2 : Int)) = true := decide_eq_true (by omega)
          go_wp2_with fail
          go_ret
          exact ⟨rfl, HB1.out⟩
      · obtain rfl : j = A.length := by omega
        have htot : tot A.length (fun v => (edgesOf A v).length) ≤ 1000000 := by
          have h1 := tot_le (n := A.length) (g := fun _ => 20) HD.out
          rw [tot_const] at h1
          have : A.length * 20 ≤ 12 * 20 := Nat.mul_le_mul_right _ hl
          omega
        have cc := comps_calls (ec := cap) HA.out (fun i hi => by have := HD.out i hi; omega) htot (by omega)
        clear htot
        go_upto_region 13 with (first | (go_at_call 10; refine cc.mono ?_; rintro e w3 ⟨a3, p3, M3, rfl, h1, h2, h3⟩; have R3 := Lib.hid h1; have C3 := Lib.hid h2; have B3 := Lib.hid h3; clear h1 h2 h3))
        clear cc
        have cp := page_calls (ec := cap) (HA.out.below B3.out) (fun i hi => by have := HD.out i hi; omega) (by omega)
        have HA3 := Lib.hid (HA.out.below B3.out)
        obtain ⟨lb, hlb⟩ : ∃ b, decide ((0 ≤ t ∧ t < (A.length : Int)) ∧ t ∈ edgesOf A t.toNat) = b := ⟨_, rfl⟩
        have HLB := Lib.hid hlb
        clear hlb
        by_cases ht : 0 ≤ t ∧ t < (A.length : Int)
        · obtain ⟨z, rfl⟩ : ∃ z : Nat, t = z := ⟨t.toNat, by omega⟩
          have hz : z < A.length := by omega
          have z0 : (0 : Int) ≤ (z : Int) := by omega
          have z1 : (z : Int) < (A.length : Int) := by omega
          have q3 : decide ((0 : Int) ≤ (z : Int)) = true := decide_eq_true (by omega)
          have q4 : decide ((z : Int) < (A.length : Int)) = true := decide_eq_true (by omega)
          obtain ⟨g, off, rfl, hg, hc, hrow, _⟩ := HA3.out.at hz
          obtain ⟨x1, hx1⟩ : ∃ x, (atV A z).1 = x := ⟨_, rfl⟩
          obtain ⟨zs, hx2⟩ : ∃ x, (atV A z).2.1 = x := ⟨_, rfl⟩
          obtain ⟨x3, hx3⟩ : ∃ x, (atV A z).2.2 = x := ⟨_, rfl⟩
          rw [hx1, hx2, hx3] at hc
          rw [hx1, hx2] at hrow
          have HROW := Lib.hid hrow
          have hzl : zs.length ≤ 20 := by rw [← hx2]; exact HD.out z hz
          have HZ : Hid (decide ((z : Int) ∈ zs) = lb) := Lib.hid (by
            rw [← HLB.out, ← hx2]
            show decide ((z : Int) ∈ (atV A z).2.1) = _
            simp only [Int.toNat_natCast]
            congr 1
            simp only [edgesOf, eq_iff_iff]
            exact ⟨fun h => ⟨⟨z0, z1⟩, h⟩, fun h => h.2⟩)
          have HT := Lib.hid ht
          clear hrow hx1 hx2 hx3 ht
          go_wp2_with fail
          go_loopw [41, 8, 10] (fun s41 s8 _ wv => ∃ (k : Nat) (b : Bool), k ≤ zs.length ∧ s41 = .int .i64 k ∧ s8 = .bool b ∧ w3 = wv ∧ Hid (b = decide ((z : Int) ∈ zs.take k))) (fun s41 _ _ _ => zs.length - (intOf s41).toNat)
          case atStart => exact ⟨0, false, Nat.zero_le _, rfl, rfl, rfl, Lib.hid (by simp)⟩
          case round =>
            obtain ⟨k, b, hk, rfl, rfl, rfl, HB⟩ := hrel
            by_cases hlk : k < zs.length
            · have k0 : (0 : Int) ≤ (k : Int) := by omega
              have k1 : (k : Int) < (zs.length : Int) := by omega
              obtain ⟨xb, xo, rfl, hxb, hxc⟩ := HROW.out.at hlk
              obtain ⟨y, hy⟩ : ∃ y, zs[k]?.getD 0 = y := ⟨_, rfl⟩
              rw [hy] at hxc
              have HY : Hid (zs[k]? = some y) := Lib.hid (by rw [← hy, List.getElem?_eq_getElem hlk]; rfl)
              clear hy
              have NB : ∀ b2, b2 = (b || (y == (z : Int))) → Hid (b2 = decide ((z : Int) ∈ zs.take (k + 1))) := fun b2 h2 => Lib.hid (by
                have hg : zs[k] = y := (List.getElem?_eq_some_iff.1 HY.out).2
                rw [h2, HB.out, List.take_succ_eq_append_getElem hlk, hg]
                by_cases e : y = (z : Int)
                · subst e; simp
                · have e2 : ¬ (z : Int) = y := fun h => e h.symm
                  simp [e, e2])
              cases b
              · have N2 := NB (y == (z : Int)) (by simp)
                clear NB HB
                go_wp2_with fail
                go_roundw
                case rel => exact ⟨k + 1, _, by omega, by go_num, rfl, trivial, N2⟩
                case measure => simp [intOf]; omega
              · have N2 := NB true (by simp)
                clear NB HB
                go_wp2_with fail
                go_roundw
                case rel => exact ⟨k + 1, _, by omega, by go_num, rfl, trivial, N2⟩
                case measure => simp [intOf]; omega
            · obtain rfl : k = zs.length := by omega
              obtain rfl : b = lb := by rw [HB.out, List.take_length]; exact HZ.out
              generalize (z : Int) = t at *
              clear HB HZ HROW HA3
              go_wp2_with (first | (go_at_call 11; refine cp.mono ?_; rintro e w4 ⟨a4, p4, M4, rfl, h1, h2, h3⟩; have R4 := Lib.hid h1; have C4 := Lib.hid h2; have B4 := Lib.hid h3; clear h1 h2 h3; have ci := is_calls (ca := p3) (cb := p4) (R3.out.below B4.out) R4.out (C3.out.lens (by omega)).1 (C4.out.lens (by omega)).1 (C3.out.lens (by omega)).2 (C4.out.lens (by omega)).2; rw [decide_eq_true (show rowsOf M3 = rowsOf M4 from C3.out.unique C4.out)] at ci) | (go_at_call 9; refine ci.mono ?_; rintro e w5 ⟨rfl, h3⟩; have B5 := Lib.hid h3; clear h3; have cl := loops_calls (c := cap) (((HA.out.below B3.out).below B4.out).below B5.out) (by omega) (fun i hi => by have := HD.out i hi; omega) t; rw [HLB.out] at cl) | (go_at_call 12; refine cl.mono ?_; rintro e w6 ⟨rfl, rfl⟩))
              have BE : Hid (Below w.heap.size w w5) := Lib.hid (by
                have s1 := HB1.out.size
                have s3 := B3.out.size
                have s4 := B4.out.size
                exact ((HB1.out.trans (B3.out.mono s1)).trans (B4.out.mono (by omega))).trans (B5.out.mono (by omega)))
              go_ret
              exact ⟨by simp, BE.out⟩
        · have q3 : (decide ((0 : Int) ≤ t) && decide (t < (A.length : Int))) = false := by
            rw [Bool.and_eq_false_iff, decide_eq_false_iff_not, decide_eq_false_iff_not]; omega
          obtain rfl : false = lb := by
            rw [← HLB.out]; symm; exact decide_eq_false (fun h => ht h.1)
          by_cases h0 : 0 ≤ t
          · have q4 : decide ((0 : Int) ≤ t) = true := decide_eq_true h0
            have q5 : decide (t < (A.length : Int)) = false := decide_eq_false (fun h => ht ⟨h0, h⟩)
            clear ht q3 HA3
            go_wp2_with (first | (go_at_call 11; refine cp.mono ?_; rintro e w4 ⟨a4, p4, M4, rfl, h1, h2, h3⟩; have R4 := Lib.hid h1; have C4 := Lib.hid h2; have B4 := Lib.hid h3; clear h1 h2 h3; have ci := is_calls (ca := p3) (cb := p4) (R3.out.below B4.out) R4.out (C3.out.lens (by omega)).1 (C4.out.lens (by omega)).1 (C3.out.lens (by omega)).2 (C4.out.lens (by omega)).2; rw [decide_eq_true (show rowsOf M3 = rowsOf M4 from C3.out.unique C4.out)] at ci) | (go_at_call 9; refine ci.mono ?_; rintro e w5 ⟨rfl, h3⟩; have B5 := Lib.hid h3; clear h3; have cl := loops_calls (c := cap) (((HA.out.below B3.out).below B4.out).below B5.out) (by omega) (fun i hi => by have := HD.out i hi; omega) t; rw [HLB.out] at cl) | (go_at_call 12; refine cl.mono ?_; rintro e w6 ⟨rfl, rfl⟩))
            have BE : Hid (Below w.heap.size w w5) := Lib.hid (by
              have s1 := HB1.out.size
              have s3 := B3.out.size
              have s4 := B4.out.size
              exact ((HB1.out.trans (B3.out.mono s1)).trans (B4.out.mono (by omega))).trans (B5.out.mono (by omega)))
            go_ret
            exact ⟨by simp, BE.out⟩
          · have q4 : decide ((0 : Int) ≤ t) = false := decide_eq_false h0
            clear ht q3 h0 HA3
            go_wp2_with (first | (go_at_call 11; refine cp.mono ?_; rintro e w4 ⟨a4, p4, M4, rfl, h1, h2, h3⟩; have R4 := Lib.hid h1; have C4 := Lib.hid h2; have B4 := Lib.hid h3; clear h1 h2 h3; have ci := is_calls (ca := p3) (cb := p4) (R3.out.below B4.out) R4.out (C3.out.lens (by omega)).1 (C4.out.lens (by omega)).1 (C3.out.lens (by omega)).2 (C4.out.lens (by omega)).2; rw [decide_eq_true (show rowsOf M3 = rowsOf M4 from C3.out.unique C4.out)] at ci) | (go_at_call 9; refine ci.mono ?_; rintro e w5 ⟨rfl, h3⟩; have B5 := Lib.hid h3; clear h3; have cl := loops_calls (c := cap) (((HA.out.below B3.out).below B4.out).below B5.out) (by omega) (fun i hi => by have := HD.out i hi; omega) t; rw [HLB.out] at cl) | (go_at_call 12; refine cl.mono ?_; rintro e w6 ⟨rfl, rfl⟩))
            have BE : Hid (Below w.heap.size w w5) := Lib.hid (by
              have s1 := HB1.out.size
              have s3 := B3.out.size
              have s4 := B4.out.size
              exact ((HB1.out.trans (B3.out.mono s1)).trans (B4.out.mono (by omega))).trans (B5.out.mono (by omega)))
            go_ret
            exact ⟨by simp, BE.out⟩
  · have q1 : decide ((12 : Int) < (A.length : Int)) = true := decide_eq_true (by omega)
    go_wp2_with (first | (go_at_call 7; refine c1.mono ?_; rintro e w1 ⟨rfl, hb1⟩; have HB1 := Lib.hid hb1; clear hb1))
    go_ret
    exact ⟨rfl, HB1.out⟩
end Go.Proofs.Ytfpocoaddmgakaa
