/- The law's pairs. -/
import Derived.Test.YtcecndjkfdaaaaaJn3
namespace Go.Proofs.Ytcecndjkfdaaaaa
open Go.RowKit
set_option linter.unusedVariables false
set_option linter.unusedSimpArgs false

theorem cmpR_zero {a b : List Int} : cmpR a b = 0 ↔ a = b := by
  constructor
  · intro h
    rcases cmpR_tri a b with h1 | h1 | h1
    · omega
    · exact h1
    · omega
  · rintro rfl; exact cmpR_self a
theorem rowPairs_append (i : Nat) (a b : List Int) : rowPairs i (a ++ b) = rowPairs i a ++ rowPairs i b := by simp [rowPairs]
set_option maxRecDepth 100000 in
set_option maxHeartbeats 4000000 in
theorem pairs_calls {w : World} {p o : Option Addr} {w1 w2 : Nat} {rs ss : List (List Int)} (hS : Seg w p w1 rs) (hT : Seg w o w2 ss) (a b : Option Addr) (ca cb : Nat) (ka kb : List Int) (hka : Row w a ka) (hkb : Row w b kb) (hal : ka.length ≤ 1000) (hbl : kb.length ≤ 1000) (hw1 : w1 ≤ 1000) (hw2 : w2 ≤ 1000) (hrs : rs.length ≤ 1000) (hss : ss.length ≤ 1000) :
    Calls Try.prog 15 #[.pointer p, .pointer o, .slice a ka.length ca, .slice b kb.length cb] w (PairRet w (pairsOf (rs.map fun r => keyL r ka) (ss.map fun r => keyL r kb))) := by
  obtain ⟨i0, hi0, hz0, hz1, hz2⟩ := info_parts info36
  have I := Lib.hid hi0
  have Z0 := Lib.hid hz0
  have Z1 := Lib.hid hz1
  have Z2 := Lib.hid hz2
  obtain ⟨B, hB⟩ : ∃ B, w.heap.size = B := ⟨_, rfl⟩
  have HB := Lib.hid hB
  have HS := Lib.hid hS
  have HT := Lib.hid hT
  have HA := Lib.hid hka
  have HKB := Lib.hid hkb
  have KA : Hid (∀ i, i < rs.length → kyAt (rs.map fun r => keyL r ka) i = keyL (rowAt rs i) ka) := Lib.hid (fun i hi => kyAt_map hi)
  have KB : Hid (∀ i, i < ss.length → kyAt (ss.map fun r => keyL r kb) i = keyL (rowAt ss i) kb) := Lib.hid (fun i hi => kyAt_map hi)
  have LA : Hid ((rs.map fun r => keyL r ka).length = rs.length) := Lib.hid (by simp)
  have LB : Hid ((ss.map fun r => keyL r kb).length = ss.length) := Lib.hid (by simp)
  generalize (rs.map fun r => keyL r ka) = kas at *
  generalize (ss.map fun r => keyL r kb) = kbs at *
  clear hi0 hz0 hz1 hz2 hB hS hT hka hkb
  go_enter Try.func15, Try.ntmps15
  go_wp2_with fail
  have O0 : Hid ((w.alloc (.cells #[] 36)).ownsRow B 36 2 (.slice (some ⟨w.heap.size, 0, none⟩) 0 0) 0 []) := Lib.hid (World.ownsRow_lit (base := B) (e := 36) (size := 2) w #[] 0 (Nat.le_of_eq HB.out.symm) (by decide) rfl)
  have B0 := Lib.hid ((Below.refl B w).alloc (Nat.le_of_eq HB.out.symm) (.cells #[] 36))
  generalize World.alloc w _ = w0 at *
  generalize Value.slice (some ⟨w.heap.size, 0, none⟩) 0 0 = v0 at *
  go_loopw [10, 9] (fun s v wr => ∃ (i : Nat) (u : Value), i ≤ rs.length ∧ s = .int .i64 i ∧ u = v ∧ Hid (wr.ownsRow B 36 2 u (pairsTo kas kbs i).length (flat (pairsTo kas kbs i))) ∧ Hid (Below B w wr)) (fun s _ _ => rs.length - (intOf s).toNat)
  case atStart => exact ⟨0, _, Nat.zero_le _, rfl, rfl, O0, B0⟩
  case round =>
    obtain ⟨i, u, hi, rfl, rfl, HO, HL⟩ := hrel
    have cl := segLen_calls (HS.out.belowB HB.out HL.out)
    go_wp2_with fail
    refine cl.mono ?_
    rintro e w' ⟨rfl, rfl⟩
    clear cl
    by_cases hlt : i < rs.length
    · obtain ⟨W2, rfl⟩ : ∃ x, x = wr := ⟨wr, rfl⟩
      have SC := Lib.hid (pairsTo_succ kas kbs i)
      have hpl : (pairsTo kas kbs i).length ≤ 1000000 := by
        have := pairsTo_len kas kbs i
        rw [LB.out] at this
        have h2 : i * ss.length ≤ 1000 * 1000 := Nat.mul_le_mul (by omega) hss
        omega
      generalize pairsTo kas kbs i = P0 at *
      go_wp2_with fail
      go_loopw [11, 9] (fun s v wr => ∃ (j : Nat) (u2 : Value), j ≤ ss.length ∧ s = .int .i64 j ∧ u2 = v ∧ Hid (wr.ownsRow B 36 2 u2 (P0 ++ rowPairs i (ints (rowsTo kbs (kyAt kas i) j))).length (flat (P0 ++ rowPairs i (ints (rowsTo kbs (kyAt kas i) j))))) ∧ Hid (Below B w wr)) (fun s _ _ => ss.length - (intOf s).toNat)
      case atStart => exact ⟨0, _, Nat.zero_le _, rfl, rfl, Lib.hid (by simpa [rowsTo, ints, rowPairs] using HO.out), HL⟩
      case round =>
        obtain ⟨j, u2, hj, rfl, rfl, O2, L2⟩ := hrel
        have cl2 := segLen_calls (HT.out.belowB HB.out L2.out)
        go_wp2_with fail
        refine cl2.mono ?_
        rintro e w' ⟨rfl, rfl⟩
        clear cl2
        by_cases hlt2 : j < ss.length
        · have hB2 : Hid (B ≤ wr.heap.size) := Lib.hid (by have := L2.out.size; rw [HB.out] at this; exact this)
          have HLw := Lib.hid (HS.out.2.1 _ (rowAt_mem hlt))
          have HLv := Lib.hid (HT.out.2.1 _ (rowAt_mem hlt2))
          have K1 : Hid ((kyAt kas i).length ≤ 1000) := Lib.hid (by rw [KA.out i hlt]; have := keyL_len (rowAt rs i) ka; omega)
          have K2 : Hid ((kyAt kbs j).length ≤ 1000) := Lib.hid (by rw [KB.out j hlt2]; have := keyL_len (rowAt ss j) kb; omega)
          have cr := segRow_calls (HS.out.belowB HB.out L2.out) i hlt hw1 (by omega)
          go_wp2_with fail
          refine cr.mono ?_
          rintro e W3 ⟨ra, rc, rfl, hr3, _, hb3⟩
          have L3 := Lib.hid (L2.out.trans (hb3.mono hB2.out))
          have O3 := Lib.hid (owns_keeps (N := fun _ => False) O2.out (Keeps.of_below hb3) (fun _ _ h => h))
          have hB3 : Hid (B ≤ W3.heap.size) := Lib.hid (by have := L3.out.size; rw [HB.out] at this; exact this)
          clear cr
          have ck := lawKeyF_calls ra a rc ca (rowAt rs i) ka W3 hr3 (HA.out.belowB HB.out L3.out) (by rw [HLw.out]; omega) (by omega)
          rw [← KA.out i hlt] at ck
          clear hr3 hb3
          go_wp2_with fail
          refine ck.mono ?_
          rintro e W4 ⟨ya, yc, rfl, hr4, _, _, hb4⟩
          have L4 := Lib.hid (L3.out.trans (hb4.mono hB3.out))
          have O4 := Lib.hid (owns_keeps (N := fun _ => False) O3.out (Keeps.of_below hb4) (fun _ _ h => h))
          have hB4 : Hid (B ≤ W4.heap.size) := Lib.hid (by have := L4.out.size; rw [HB.out] at this; exact this)
          have Y4 := Lib.hid hr4
          clear ck
          have cr2 := segRow_calls (HT.out.belowB HB.out L4.out) j hlt2 hw2 (by omega)
          clear hr4 hb4
          go_wp2_with fail
          refine cr2.mono ?_
          rintro e W5 ⟨rb, rd, rfl, hr5, _, hb5⟩
          have L5 := Lib.hid (L4.out.trans (hb5.mono hB4.out))
          have O5 := Lib.hid (owns_keeps (N := fun _ => False) O4.out (Keeps.of_below hb5) (fun _ _ h => h))
          have hB5 : Hid (B ≤ W5.heap.size) := Lib.hid (by have := L5.out.size; rw [HB.out] at this; exact this)
          have Y5 := Lib.hid (Y4.out.below hb5)
          clear cr2
          have ck2 := lawKeyF_calls rb b rd cb (rowAt ss j) kb W5 hr5 (HKB.out.belowB HB.out L5.out) (by rw [HLv.out]; omega) (by omega)
          rw [← KB.out j hlt2] at ck2
          clear hr5 hb5
          go_wp2_with fail
          refine ck2.mono ?_
          rintro e W6 ⟨za, zc, rfl, hr6, _, _, hb6⟩
          have L6 := Lib.hid (L5.out.trans (hb6.mono hB5.out))
          have O6 := Lib.hid (owns_keeps (N := fun _ => False) O5.out (Keeps.of_below hb6) (fun _ _ h => h))
          have hB6 : Hid (B ≤ W6.heap.size) := Lib.hid (by have := L6.out.size; rw [HB.out] at this; exact this)
          have Y6 := Lib.hid (Y5.out.below hb6)
          clear ck2
          have cc := lawCompare_calls ya za yc zc _ _ W6 Y6.out hr6 (by have := K1.out; omega) (by have := K2.out; omega)
          obtain ⟨r, hr⟩ : ∃ r, cmpR (kyAt kas i) (kyAt kbs j) = r := ⟨_, rfl⟩
          rw [hr] at cc
          have HR := Lib.hid hr
          clear hr6 hb6 hr
          go_wp2_with fail
          refine cc.mono ?_
          rintro e w' ⟨rfl, q, rfl⟩
          clear cc
          have L7 := Lib.hid (L6.out.trans (below_drewN (Below.refl B W6) q))
          have O7 := Lib.hid (owns_keeps (N := fun _ => False) O6.out (Keeps.of_below (below_drewN (Below.refl _ W6) q)) (fun _ _ h => h))
          have hB7 : B ≤ (W6.drewN q).heap.size := hB6.out
          generalize W6.drewN q = W7 at *
          have hrl : (rowsTo kbs (kyAt kas i) j).length ≤ 1000 := by have := rowsTo_len kbs (kyAt kas i) j; omega
          by_cases h0 : r = 0
          · subst h0
            have he : kyAt kbs j = kyAt kas i := (cmpR_zero.1 HR.out).symm
            have ST : Hid (P0 ++ rowPairs i (ints (rowsTo kbs (kyAt kas i) (j + 1))) = (P0 ++ rowPairs i (ints (rowsTo kbs (kyAt kas i) j))) ++ [((i : Int), (j : Int))]) := Lib.hid (by rw [rowsTo_hit he, List.append_assoc]; congr 1; simp [ints, rowPairs])
            have hq : (P0 ++ rowPairs i (ints (rowsTo kbs (kyAt kas i) j))).length ≤ 1001000 := by rw [List.length_append]; simp only [rowPairs, List.length_map, ints_len]; omega
            clear he
            generalize P0 ++ rowPairs i (ints (rowsTo kbs (kyAt kas i) j)) = P1 at *
            go_wp2_with (first | (at_builtin; refine wpList_append_own_at _ rfl _ _ 30 rfl B 36 i0 _ 2 16 Try.underlying30 I.out Z0.out Z1.out Z2.out rfl (by decide) _ _ _ rfl (O7.out.alloc _) ⟨W7.heap.size, 0, none⟩ 1 1 [.int .i64 i, .int .i64 j] rfl rfl ?c1 ?c2 ?c3 ?c4 ?c5 ?_))
            case c1 => exact two_new W7 _ _ _
            case c2 => intro z hz; simp at hz; rcases hz with rfl | rfl <;> rfl
            case c3 => unfold maxLen; omega
            case c4 => omega
            case c5 => simp; omega
            intro v1 w8 hown hgrow _ hat
            have R := app_pair hB7 L7.out O7.out hown hgrow
            have O8 := Lib.hid R.1
            have L8 := Lib.hid R.2
            rw [← ST.out] at O8
            clear hown hgrow hat R
            go_wp2_with fail
            go_roundw
            case rel => exact ⟨j + 1, _, by omega, by go_num, rfl, O8, L8⟩
            case measure => simp [intOf]; omega
          · have hne : ¬ kyAt kbs j = kyAt kas i := fun e => h0 (by rw [← HR.out, e]; exact cmpR_self _)
            have t1 : (r == 0) = false := beq_eq_false_iff_ne.2 h0
            rw [← rowsTo_step_no hne] at O7
            clear hne
            go_wp2_with fail
            go_roundw
            case rel => exact ⟨j + 1, u2, by omega, by go_num, rfl, O7, L7⟩
            case measure => simp [intOf]; omega
        · have tk : decide (j < ss.length) = false := decide_eq_false hlt2
          have O6 : Hid (wr.ownsRow B 36 2 u2 (pairsTo kas kbs (i + 1)).length (flat (pairsTo kas kbs (i + 1)))) := Lib.hid (by rw [SC.out]; have := O2.out; rw [show j = kbs.length by rw [LB.out]; omega] at this; exact this)
          go_wp2_with fail
          go_roundw
          case rel => exact ⟨i + 1, u2, by omega, by go_num, rfl, O6, L2⟩
          case measure => simp [intOf]; omega
    · have tl : decide (i < rs.length) = false := decide_eq_false hlt
      have hfin : wr.ownsRow B 36 2 u (pairsOf kas kbs).length (flat (pairsOf kas kbs)) := by
        have := HO.out
        rw [show i = kas.length by rw [LA.out]; omega] at this
        exact this
      obtain ⟨a9, c9, rfl, hrow⟩ := prow_of_owns hfin
      have HRw := Lib.hid hrow
      clear hfin hrow
      go_wp2_with fail
      go_ret
      exact ⟨a9, c9, rfl, HRw.out, by rw [HB.out]; exact HL.out⟩
end Go.Proofs.Ytcecndjkfdaaaaa
