/- The walk of SegmentFinds. -/
import Derived.Test.YtkcpdkhdjgfigaaSg14
import Derived.Test.YtkcpdkhdjgfigaaSg13
namespace Go.Proofs.Ytkcpdkhdjgfigaa
open Go.RowKit
set_option linter.unusedVariables false
set_option linter.unusedSimpArgs false

theorem row_of_map {L : List RV} {rs : List (List Int)} (h : L.map (·.2.1) = rs) {j : Nat} (hj : j < L.length) : (atV L j).2.1 = rowAt rs j := by
  subst h; simp [rowAt, atV, hj]
theorem mem_take_step {rs : List (List Int)} {j : Nat} (hj : j < rs.length) (q : List Int) : decide (q ∈ rs.take (j + 1)) = (decide (q ∈ rs.take j) || decide (rowAt rs j = q)) := by
  rw [List.take_succ_eq_append_getElem hj]
  simp only [List.mem_append, List.mem_singleton, rowAt, List.getElem?_eq_getElem hj, Option.getD_some]
  by_cases h1 : q ∈ rs.take j
  · simp [h1]
  · by_cases h2 : q = rs[j]
    · simp [h1, h2]
    · have h3 : ¬ rs[j] = q := fun h => h2 h.symm
      simp [h1, h2, h3]

set_option maxRecDepth 100000 in
set_option maxHeartbeats 4000000 in
theorem finds_walk (width : Int) (a : Option Addr) (cap : Nat) (A : List RV) (pa : Option Addr) (pc : Nat) (ps : List Int) (w : World) (hA : NestArgs w a A) (hP : Row w pa ps) (hpl : ps.length ≤ pc) (hpm : ps.length ≤ maxLen) (hw1 : -9223372036854775808 ≤ width) (hw2 : width ≤ 9223372036854775807) :
    Calls Try.prog 3 #[.int .i64 width, .slice a A.length cap, .slice pa ps.length pc] w (TrueRet5 w) := by
  obtain ⟨B, hB⟩ : ∃ B, w.heap.size = B := ⟨_, rfl⟩
  have HB := Lib.hid hB
  unfold maxLen at hpm
  have HA := Lib.hid hA
  have HP := Lib.hid hP
  clear hB hA hP
  have HBr := fun (W : World) (hb : Below B w W) => (show B ≤ W.heap.size by have := hb.size; rw [HB.out] at this; exact this)
  cases hf : fewB A with
  | false =>
    have cf : ∀ W, Below B w W → Calls Try.prog 13 #[.slice a A.length cap] W fun e w' => e = .returned (.bool false) ∧ W = w' := fun W hb => by rw [← hf]; exact few_calls a cap A W (HA.out.1.belowB HB.out hb) HA.out.2.1 HA.out.2.2
    clear hf
    go_enter Try.func3, Try.ntmps3
    go_wp2_with (first | (go_at_call 12; refine (head5_calls _).mono ?_; rintro e wh ⟨rfl, hbh⟩; rw [HB.out] at hbh; have BH := Lib.hid hbh; clear hbh) | (go_at_call 13; refine (cf _ BH.out).mono ?_; rintro e w' ⟨rfl, rfl⟩))
    go_ret
    exact ⟨rfl, by rw [HB.out]; exact BH.out⟩
  | true =>
    have FO := Lib.hid (few_ok hf)
    have cf : ∀ W, Below B w W → Calls Try.prog 13 #[.slice a A.length cap] W fun e w' => e = .returned (.bool true) ∧ W = w' := fun W hb => by rw [← hf]; exact few_calls a cap A W (HA.out.1.belowB HB.out hb) HA.out.2.1 HA.out.2.2
    clear hf
    by_cases hp8 : 8 < ps.length
    · go_enter Try.func3, Try.ntmps3
      go_wp2_with (first | (go_at_call 12; refine (head5_calls _).mono ?_; rintro e wh ⟨rfl, hbh⟩; rw [HB.out] at hbh; have BH := Lib.hid hbh; clear hbh) | (go_at_call 13; refine (cf _ BH.out).mono ?_; rintro e w' ⟨rfl, rfl⟩))
      go_ret
      exact ⟨rfl, by rw [HB.out]; exact BH.out⟩
    · have t8 : decide ((8 : Int) < (ps.length : Int)) = false := decide_eq_false (by omega)
      have hp8' : ps.length ≤ 8 := by omega
      clear hp8
      go_enter Try.func3, Try.ntmps3
      go_wp2_with (first | (go_at_call 12; refine (head5_calls _).mono ?_; rintro e wh ⟨rfl, hbh⟩; rw [HB.out] at hbh; have BH := Lib.hid hbh; clear hbh) | (go_at_call 13; refine (cf _ BH.out).mono ?_; rintro e w' ⟨rfl, rfl⟩))
      obtain ⟨wd, hwd4, hwd⟩ := width5 width
      rw [hwd]
      clear hwd cf
      have hA60 := FO.out.1
      have HL8 : Hid (∀ x ∈ A, x.2.1.length ≤ 1000000) := Lib.hid (fun x hx => by have := FO.out.2 x hx; omega)
      refine (sorted_calls wd a cap A wh (HA.out.1.belowB HB.out BH.out) (by omega) (by omega) HL8.out).mono ?_
      rintro e w1 ⟨a1, c1, L, rfl, hm1, hr1, hLA, hb1⟩
      have B1 : Hid (Below B w w1) := Lib.hid (BH.out.trans (hb1.mono (HBr _ BH.out)))
      have hrl : (relOf wd (A.map (·.2.1))).length ≤ 60 := by have h1 := rel_len (wd : Int) (A.map (·.2.1)); simp at h1; omega
      have R1 := Lib.hid hr1
      have M1 := Lib.hid hm1
      clear hm1 hr1 hb1 BH
      go_wp2_with fail
      refine (make_calls wd a cap A w1 (HA.out.1.belowB HB.out B1.out) (by omega) (by omega) HL8.out).mono ?_
      rintro e w2 ⟨sp, rfl, hs2, hb2⟩
      generalize relOf (wd : Int) (A.map (·.2.1)) = rs at *
      have B2 : Hid (Below B w w2) := Lib.hid (B1.out.trans (hb2.mono (HBr _ B1.out)))
      have S2 := Lib.hid hs2
      have R2 := Lib.hid (R1.out.below hb2)
      have HW := Lib.hid hs2.2.1
      have LL : Hid (L.length = rs.length) := Lib.hid (by have := congrArg List.length M1.out; simpa using this)
      clear hs2 hb2 R1 B1
      by_cases hpw : wd < ps.length
      · go_wp2_with fail
        refine (prefix_long S2.out pa ps.length pc hpw (by omega)).mono ?_
        rintro e w3 ⟨rfl, rfl⟩
        have ch := has_calls S2.out pa pc ps (HP.out.belowB HB.out B2.out) (by omega) (by omega) (by omega)
        have hne : decide (ps ∈ rs) = false := decide_eq_false (fun hm => by have := HW.out _ hm; omega)
        rw [hne] at ch
        clear hne
        go_wp2_with fail
        refine ch.mono ?_
        rintro e w4 ⟨rfl, hb4⟩
        have B4 : Hid (Below B w w4) := Lib.hid (B2.out.trans (hb4.mono (HBr _ B2.out)))
        clear hb4 ch
        go_wp2_with fail
        go_ret
        exact ⟨rfl, by rw [HB.out]; exact B4.out⟩
      · have t9 : decide (wd < ps.length) = false := decide_eq_false hpw
        go_wp2_with fail
        refine (prefix_calls S2.out pa pc ps (HP.out.belowB HB.out B2.out) (by omega) (by omega) (by omega)).mono ?_
        rintro e w3 ⟨f, t, rfl, hP3, hb3⟩
        have P3 := Lib.hid hP3
        have hft : f ≤ t ∧ t ≤ rs.length := ⟨hP3.1, hP3.2.1⟩
        have S3 := Lib.hid (S2.out.below hb3)
        have R3 := Lib.hid (R2.out.below hb3)
        have B3 : Hid (Below B w w3) := Lib.hid (B2.out.trans (hb3.mono (HBr _ B2.out)))
        clear hP3 hb3 S2 R2 B2
        obtain ⟨w0, rfl⟩ : ∃ y, y = w3 := ⟨w3, rfl⟩
        go_wp2_with fail
        go_loopw [61, 12, 13, 11] (fun s s12 s13 s11 wr => ∃ (j n1 n2 q : Nat) (b : Bool), s = .int .i64 j ∧ s12 = .int .i64 n1 ∧ s13 = .int .i64 n2 ∧ s11 = .bool b ∧ j ≤ L.length ∧ Hid (n1 = min j f) ∧ n1 ≤ 60 ∧ Hid (n1 + n2 = min j t) ∧ n2 ≤ 60 ∧ Hid (b = decide (ps ∈ rs.take j)) ∧ Hid (wr = w0.drewN q)) (fun s _ _ _ _ => L.length - (intOf s).toNat)
        case atStart => exact ⟨0, 0, 0, 0, false, rfl, rfl, rfl, rfl, Nat.zero_le _, Lib.hid (by omega), by omega, Lib.hid (by omega), by omega, Lib.hid (by simp), Lib.hid rfl⟩
        case round =>
          obtain ⟨j, n1, n2, q, b, rfl, rfl, rfl, rfl, hj, H1, hn1, H2, hn2, Hb, HWr⟩ := hrel
          by_cases hlt : j < L.length
          · have hjr : j < rs.length := by rw [← LL.out]; exact hlt
            have hbel0 : Hid (Below w0.heap.size w0 wr) := Lib.hid (by rw [HWr.out]; exact below_drewN (Below.refl _ _) q)
            obtain ⟨b1, off1, rfl, hb1, hc1, hr1, hcp1⟩ := (R3.out.below hbel0.out).at hlt
            rw [row_of_map M1.out hlt] at hc1 hr1 hcp1
            have hlw := HW.out _ (rowAt_mem hjr)
            have HPr : Hid (Row wr pa ps) := Lib.hid (by have := HP.out.belowB HB.out B3.out; exact this.below hbel0.out)
            have HR1 := Lib.hid hr1
            have PA := Lib.hid (P3.out.2.2 j hjr)
            have MT := Lib.hid (mem_take_step hjr ps)
            have TK : Hid (((rowAt rs j).take ps.length).length = ps.length) := Lib.hid (by simp; omega)
            rw [hlw] at hc1 hcp1
            obtain ⟨cv, hcv⟩ : ∃ cv, cmpR ((rowAt rs j).take ps.length) ps = cv := ⟨_, rfl⟩
            obtain ⟨dv, hdv⟩ : ∃ dv, cmpR (rowAt rs j) ps = dv := ⟨_, rfl⟩
            have DE : Hid (rowAt rs j = ps ↔ dv = 0) := Lib.hid ⟨fun h => by rw [← hdv, h, cmpR_self], fun h => cmpR_eq (by rw [hdv, h])⟩
            have cc : Calls Try.prog 18 #[.slice (atV L j).1 ps.length (atV L j).2.2, .slice pa ps.length pc] wr (Quiet (.int .i64 cv) wr) := by
              have := lawCompare_calls (atV L j).1 pa (atV L j).2.2 pc ((rowAt rs j).take ps.length) ps wr (hr1.take _) HPr.out (by rw [TK.out]; omega) (by omega)
              rw [TK.out, hcv] at this; exact this
            have dd : ∀ q', Calls Try.prog 18 #[.slice (atV L j).1 wd (atV L j).2.2, .slice pa ps.length pc] (wr.drewN q') (Quiet (.int .i64 dv) (wr.drewN q')) := fun q' => by
              have := lawCompare_calls (atV L j).1 pa (atV L j).2.2 pc (rowAt rs j) ps (wr.drewN q') (HR1.out.drewN q') (HPr.out.drewN q') (by omega) (by omega)
              rw [hlw, hdv] at this; exact this
            rw [hcv] at PA
            clear hcv hdv hr1 hlw
            generalize (atV L j).1 = xa at *
            generalize (atV L j).2.2 = xc at *
            have DD := Lib.hid dd
            clear dd
            have q1 : (ps.length : Int) ≤ (wd : Int) := by omega
            go_wp2_with fail
            refine cc.mono ?_
            rintro e w5 ⟨rfl, q5, rfl⟩
            clear cc hc1
            by_cases hc0 : cv < 0
            · have hjf : j < f := PA.out.1.2 hc0
              have t5 : (cv == 0) = false := beq_eq_false_iff_ne.2 (by omega)
              have M1' : Hid ((n1 + 1) = min (j + 1) f) := Lib.hid (by have h1 := H1.out; omega)
              have M2' : Hid ((n1 + 1) + n2 = min (j + 1) t) := Lib.hid (by have h1 := H1.out; have h2 := H2.out; omega)
              have k1 : (n1 + 1) ≤ 60 := by have := M1'.out; have := LL.out; omega
              have k2 : n2 ≤ 60 := by have := M2'.out; have := LL.out; omega
              cases b
              · have hb0 := Hb.out.symm
                by_cases hd : dv = 0
                · have MB : Hid (true = decide (ps ∈ rs.take (j + 1))) := Lib.hid (by rw [MT.out, decide_eq_true (DE.out.2 hd)]; simp)
                  subst hd
                  clear hb0
                  go_wp2_with fail
                  refine (DD.out q5).mono ?_
                  rintro e w6 ⟨rfl, q6, hw6⟩
                  have HW6 : Hid (w6 = w0.drewN (q + (q5 + q6))) := Lib.hid (by rw [hw6]; exact drewM2 HWr.out)
                  clear hw6
                  go_wp2_with fail
                  go_roundw
                  case rel => exact ⟨j + 1, (n1 + 1), n2, _, true, by go_num, by go_num, rfl, rfl, by omega, M1', k1, M2', k2, MB, HW6⟩
                  case measure => simp [intOf]; omega
                · have MB : Hid (false = decide (ps ∈ rs.take (j + 1))) := Lib.hid (by rw [MT.out, hb0, decide_eq_false (fun h => hd (DE.out.1 h))]; rfl)
                  have t7 : (dv == 0) = false := beq_eq_false_iff_ne.2 hd
                  clear hb0 hd
                  go_wp2_with fail
                  refine (DD.out q5).mono ?_
                  rintro e w6 ⟨rfl, q6, hw6⟩
                  have HW6 : Hid (w6 = w0.drewN (q + (q5 + q6))) := Lib.hid (by rw [hw6]; exact drewM2 HWr.out)
                  clear hw6
                  go_wp2_with fail
                  go_roundw
                  case rel => exact ⟨j + 1, (n1 + 1), n2, _, false, by go_num, by go_num, rfl, rfl, by omega, M1', k1, M2', k2, MB, HW6⟩
                  case measure => simp [intOf]; omega
              · have MB : Hid (true = decide (ps ∈ rs.take (j + 1))) := Lib.hid (by rw [MT.out, ← Hb.out]; rfl)
                go_wp2_with fail
                go_roundw
                case rel => exact ⟨j + 1, (n1 + 1), n2, _, true, by go_num, by go_num, rfl, rfl, by omega, M1', k1, M2', k2, MB, Lib.hid (drewM HWr.out)⟩
                case measure => simp [intOf]; omega
            · have t4 : decide (cv < 0) = false := decide_eq_false hc0
              have hjf : ¬ j < f := fun h => hc0 (PA.out.1.1 h)
              by_cases hc1 : cv = 0
              · have hjt : j < t := PA.out.2.2 (by omega)
                subst hc1
                clear hc0
                have M1' : Hid (n1 = min (j + 1) f) := Lib.hid (by have h1 := H1.out; omega)
                have M2' : Hid (n1 + (n2 + 1) = min (j + 1) t) := Lib.hid (by have h1 := H1.out; have h2 := H2.out; omega)
                have k1 : n1 ≤ 60 := by have := M1'.out; have := LL.out; omega
                have k2 : (n2 + 1) ≤ 60 := by have := M2'.out; have := LL.out; omega
                cases b
                · have hb0 := Hb.out.symm
                  by_cases hd : dv = 0
                  · have MB : Hid (true = decide (ps ∈ rs.take (j + 1))) := Lib.hid (by rw [MT.out, decide_eq_true (DE.out.2 hd)]; simp)
                    subst hd
                    clear hb0
                    go_wp2_with fail
                    refine (DD.out q5).mono ?_
                    rintro e w6 ⟨rfl, q6, hw6⟩
                    have HW6 : Hid (w6 = w0.drewN (q + (q5 + q6))) := Lib.hid (by rw [hw6]; exact drewM2 HWr.out)
                    clear hw6
                    go_wp2_with fail
                    go_roundw
                    case rel => exact ⟨j + 1, n1, (n2 + 1), _, true, by go_num, rfl, by go_num, rfl, by omega, M1', k1, M2', k2, MB, HW6⟩
                    case measure => simp [intOf]; omega
                  · have MB : Hid (false = decide (ps ∈ rs.take (j + 1))) := Lib.hid (by rw [MT.out, hb0, decide_eq_false (fun h => hd (DE.out.1 h))]; rfl)
                    have t7 : (dv == 0) = false := beq_eq_false_iff_ne.2 hd
                    clear hb0 hd
                    go_wp2_with fail
                    refine (DD.out q5).mono ?_
                    rintro e w6 ⟨rfl, q6, hw6⟩
                    have HW6 : Hid (w6 = w0.drewN (q + (q5 + q6))) := Lib.hid (by rw [hw6]; exact drewM2 HWr.out)
                    clear hw6
                    go_wp2_with fail
                    go_roundw
                    case rel => exact ⟨j + 1, n1, (n2 + 1), _, false, by go_num, rfl, by go_num, rfl, by omega, M1', k1, M2', k2, MB, HW6⟩
                    case measure => simp [intOf]; omega
                · have MB : Hid (true = decide (ps ∈ rs.take (j + 1))) := Lib.hid (by rw [MT.out, ← Hb.out]; rfl)
                  go_wp2_with fail
                  go_roundw
                  case rel => exact ⟨j + 1, n1, (n2 + 1), _, true, by go_num, rfl, by go_num, rfl, by omega, M1', k1, M2', k2, MB, Lib.hid (drewM HWr.out)⟩
                  case measure => simp [intOf]; omega
              · have hjt : ¬ j < t := fun h => by have := PA.out.2.1 h; omega
                have t5 : (cv == 0) = false := beq_eq_false_iff_ne.2 hc1
                clear hc0 hc1
                have M1' : Hid (n1 = min (j + 1) f) := Lib.hid (by have h1 := H1.out; omega)
                have M2' : Hid (n1 + n2 = min (j + 1) t) := Lib.hid (by have h1 := H1.out; have h2 := H2.out; omega)
                have k1 : n1 ≤ 60 := by have := M1'.out; have := LL.out; omega
                have k2 : n2 ≤ 60 := by have := M2'.out; have := LL.out; omega
                cases b
                · have hb0 := Hb.out.symm
                  by_cases hd : dv = 0
                  · have MB : Hid (true = decide (ps ∈ rs.take (j + 1))) := Lib.hid (by rw [MT.out, decide_eq_true (DE.out.2 hd)]; simp)
                    subst hd
                    clear hb0
                    go_wp2_with fail
                    refine (DD.out q5).mono ?_
                    rintro e w6 ⟨rfl, q6, hw6⟩
                    have HW6 : Hid (w6 = w0.drewN (q + (q5 + q6))) := Lib.hid (by rw [hw6]; exact drewM2 HWr.out)
                    clear hw6
                    go_wp2_with fail
                    go_roundw
                    case rel => exact ⟨j + 1, n1, n2, _, true, by go_num, rfl, rfl, rfl, by omega, M1', k1, M2', k2, MB, HW6⟩
                    case measure => simp [intOf]; omega
                  · have MB : Hid (false = decide (ps ∈ rs.take (j + 1))) := Lib.hid (by rw [MT.out, hb0, decide_eq_false (fun h => hd (DE.out.1 h))]; rfl)
                    have t7 : (dv == 0) = false := beq_eq_false_iff_ne.2 hd
                    clear hb0 hd
                    go_wp2_with fail
                    refine (DD.out q5).mono ?_
                    rintro e w6 ⟨rfl, q6, hw6⟩
                    have HW6 : Hid (w6 = w0.drewN (q + (q5 + q6))) := Lib.hid (by rw [hw6]; exact drewM2 HWr.out)
                    clear hw6
                    go_wp2_with fail
                    go_roundw
                    case rel => exact ⟨j + 1, n1, n2, _, false, by go_num, rfl, rfl, rfl, by omega, M1', k1, M2', k2, MB, HW6⟩
                    case measure => simp [intOf]; omega
                · have MB : Hid (true = decide (ps ∈ rs.take (j + 1))) := Lib.hid (by rw [MT.out, ← Hb.out]; rfl)
                  go_wp2_with fail
                  go_roundw
                  case rel => exact ⟨j + 1, n1, n2, _, true, by go_num, rfl, rfl, rfl, by omega, M1', k1, M2', k2, MB, Lib.hid (drewM HWr.out)⟩
                  case measure => simp [intOf]; omega
          · obtain rfl : j = L.length := by omega
            have e1 : n1 = f := by have := H1.out; have := LL.out; omega
            have e2 : n1 + n2 = t := by have := H2.out; have := LL.out; omega
            have e3 : b = decide (ps ∈ rs) := by have := Hb.out; rw [List.take_of_length_le (by have := LL.out; omega)] at this; exact this
            have hbel0 : Hid (Below w0.heap.size w0 wr) := Lib.hid (by rw [HWr.out]; exact below_drewN (Below.refl _ _) q)
            have ch := has_calls (S3.out.below hbel0.out) pa pc ps ((HP.out.belowB HB.out B3.out).below hbel0.out) (by omega) (by omega) (by omega)
            rw [← e3] at ch
            have BR : Hid (Below B w wr) := Lib.hid (by rw [HWr.out]; exact below_drewN B3.out q)
            subst e1
            obtain rfl : t = n1 + n2 := e2.symm
            clear H1 H2 Hb e2 e3 hlt
            have z1 : ((n1 : Int) == (n1 : Int)) = true := by simp
            go_wp2_with fail
            refine ch.mono ?_
            rintro e w4 ⟨rfl, hb4⟩
            have B4 : Hid (Below B w w4) := Lib.hid (BR.out.trans (hb4.mono (HBr _ BR.out)))
            clear hb4 ch
            cases b <;> (go_wp2_with fail; go_ret; exact ⟨rfl, by rw [HB.out]; exact B4.out⟩)
end Go.Proofs.Ytkcpdkhdjgfigaa
