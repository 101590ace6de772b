/- The walk of IndexProbes. Written by mkix10.py. -/
import Derived.Test.YtenlhojdpjedkaaIx11
import Derived.Test.YtenlhojdpjedkaaUl
namespace Go.Proofs.Ytenlhojdpjedkaa
open Go.RowKit
set_option linter.unusedVariables false
set_option linter.unusedSimpArgs false

def FreshAt (w : World) (v : Value) (a : Option Addr) : Prop := ∀ p, a = some p → p.block < w.heap.size ∧ v.ownBlock ≠ some p.block
theorem FreshAt.below {w w2 : World} {v : Value} {a : Option Addr} (h : FreshAt w v a) (hb : Below w.heap.size w w2) : FreshAt w2 v a := fun p hp => ⟨Nat.lt_of_lt_of_le (h p hp).1 hb.size, (h p hp).2⟩
def kysOf (rs : List (List Int)) (keys : List Int) : List (List Int) := rs.map fun r => keyL r keys
set_option maxRecDepth 100000 in
set_option maxHeartbeats 4000000 in
theorem probes_v0 (width : Int) (a : Option Addr) (ca : Nat) (A : List RV) (ka : Option Addr) (kc : Nat) (keys : List Int) (qa : Option Addr) (qc : Nat) (κ : List Int) (w : World) (h1 : NestArgs w a A) (hkeys : Row w ka keys) (mkeys : keys.length ≤ maxLen) (hκ : Row w qa κ) (mκ : κ.length ≤ maxLen) (hf1 : fewB A = false) :
    Calls Try.prog 3 #[.int .i64 width, .slice a A.length ca, .slice ka keys.length kc, .slice qa κ.length qc] w (TrueRet5 w) := by
  obtain ⟨B, hB⟩ : ∃ B, w.heap.size = B := ⟨_, rfl⟩
  have HB := Lib.hid hB
  have H1 := Lib.hid h1
  have Hkeys := Lib.hid hkeys
  unfold maxLen at mkeys
  have Hκ := Lib.hid hκ
  unfold maxLen at mκ
  clear h1 hB hkeys hκ
  go_enter Try.func3, Try.ntmps3
  go_wp2_with fail
  refine (head7_calls _).mono ?_
  rintro e W0 ⟨rfl, hbh⟩
  rw [HB.out] at hbh
  have BW0 := Lib.hid hbh
  clear hbh
  have cf1 := few_w ca H1.out HB.out BW0.out
  rw [hf1] at cf1
  go_wp2_with fail
  refine cf1.mono ?_
  rintro e w' ⟨rfl, rfl⟩
  clear cf1
  go_wp2_with fail
  go_ret
  exact ⟨rfl, by rw [HB.out]; exact BW0.out⟩
set_option maxRecDepth 100000 in
set_option maxHeartbeats 4000000 in
theorem probes_v1 (width : Int) (a : Option Addr) (ca : Nat) (A : List RV) (ka : Option Addr) (kc : Nat) (keys : List Int) (qa : Option Addr) (qc : Nat) (κ : List Int) (w : World) (h1 : NestArgs w a A) (hkeys : Row w ka keys) (mkeys : keys.length ≤ maxLen) (hκ : Row w qa κ) (mκ : κ.length ≤ maxLen) (hf1 : fewB A = true) (gkeys : 8 < keys.length) :
    Calls Try.prog 3 #[.int .i64 width, .slice a A.length ca, .slice ka keys.length kc, .slice qa κ.length qc] w (TrueRet5 w) := by
  obtain ⟨B, hB⟩ : ∃ B, w.heap.size = B := ⟨_, rfl⟩
  have HB := Lib.hid hB
  have H1 := Lib.hid h1
  have Hkeys := Lib.hid hkeys
  unfold maxLen at mkeys
  have Hκ := Lib.hid hκ
  unfold maxLen at mκ
  clear h1 hB hkeys hκ
  have tkeys : decide ((8 : Int) < (keys.length : Int)) = true := decide_eq_true (by omega)
  go_enter Try.func3, Try.ntmps3
  go_wp2_with fail
  refine (head7_calls _).mono ?_
  rintro e W0 ⟨rfl, hbh⟩
  rw [HB.out] at hbh
  have BW0 := Lib.hid hbh
  clear hbh
  have cf1 := few_w ca H1.out HB.out BW0.out
  rw [hf1] at cf1
  go_wp2_with fail
  refine cf1.mono ?_
  rintro e w' ⟨rfl, rfl⟩
  clear cf1
  go_wp2_with fail
  go_ret
  exact ⟨rfl, by rw [HB.out]; exact BW0.out⟩
set_option maxRecDepth 100000 in
set_option maxHeartbeats 4000000 in
theorem probes_v2 (width : Int) (a : Option Addr) (ca : Nat) (A : List RV) (ka : Option Addr) (kc : Nat) (keys : List Int) (qa : Option Addr) (qc : Nat) (κ : List Int) (w : World) (h1 : NestArgs w a A) (hkeys : Row w ka keys) (mkeys : keys.length ≤ maxLen) (hκ : Row w qa κ) (mκ : κ.length ≤ maxLen) (hf1 : fewB A = true) (skeys : keys.length ≤ 8) (gκ : 8 < κ.length) :
    Calls Try.prog 3 #[.int .i64 width, .slice a A.length ca, .slice ka keys.length kc, .slice qa κ.length qc] w (TrueRet5 w) := by
  obtain ⟨B, hB⟩ : ∃ B, w.heap.size = B := ⟨_, rfl⟩
  have HB := Lib.hid hB
  have H1 := Lib.hid h1
  have Hkeys := Lib.hid hkeys
  unfold maxLen at mkeys
  have Hκ := Lib.hid hκ
  unfold maxLen at mκ
  clear h1 hB hkeys hκ
  have tkeys : decide ((8 : Int) < (keys.length : Int)) = false := decide_eq_false (by omega)
  have tκ : decide ((8 : Int) < (κ.length : Int)) = true := decide_eq_true (by omega)
  go_enter Try.func3, Try.ntmps3
  go_wp2_with fail
  refine (head7_calls _).mono ?_
  rintro e W0 ⟨rfl, hbh⟩
  rw [HB.out] at hbh
  have BW0 := Lib.hid hbh
  clear hbh
  have cf1 := few_w ca H1.out HB.out BW0.out
  rw [hf1] at cf1
  go_wp2_with fail
  refine cf1.mono ?_
  rintro e w' ⟨rfl, rfl⟩
  clear cf1
  go_wp2_with fail
  go_ret
  exact ⟨rfl, by rw [HB.out]; exact BW0.out⟩
set_option maxRecDepth 100000 in
set_option maxHeartbeats 4000000 in
theorem probes_full (width : Int) (a : Option Addr) (ca : Nat) (A : List RV) (ka : Option Addr) (kc : Nat) (keys : List Int) (qa : Option Addr) (qc : Nat) (κ : List Int) (w : World) (h1 : NestArgs w a A) (hkeys : Row w ka keys) (mkeys : keys.length ≤ maxLen) (hκ : Row w qa κ) (mκ : κ.length ≤ maxLen) (hf1 : fewB A = true) (skeys : keys.length ≤ 8) (sκ : κ.length ≤ 8) :
    Calls Try.prog 3 #[.int .i64 width, .slice a A.length ca, .slice ka keys.length kc, .slice qa κ.length qc] w (TrueRet5 w) := by
  obtain ⟨B, hB⟩ : ∃ B, w.heap.size = B := ⟨_, rfl⟩
  have HB := Lib.hid hB
  have H1 := Lib.hid h1
  have Hkeys := Lib.hid hkeys
  unfold maxLen at mkeys
  have Hκ := Lib.hid hκ
  unfold maxLen at mκ
  clear h1 hB hkeys hκ
  have tkeys : decide ((8 : Int) < (keys.length : Int)) = false := decide_eq_false (by omega)
  have tκ : decide ((8 : Int) < (κ.length : Int)) = false := decide_eq_false (by omega)
  have F1 := Lib.hid (few_ok hf1)
  obtain ⟨wd, hwd4, hwd⟩ := width5 width
  have HWD := Lib.hid hwd
  have hwd1 : wd ≤ 1000 := by omega
  clear hwd
  go_enter Try.func3, Try.ntmps3
  go_wp2_with fail
  refine (head7_calls _).mono ?_
  rintro e W0 ⟨rfl, hbh⟩
  rw [HB.out] at hbh
  have BW0 := Lib.hid hbh
  clear hbh
  have cf1 := few_w ca H1.out HB.out BW0.out
  rw [hf1] at cf1
  go_wp2_with fail
  refine cf1.mono ?_
  rintro e w' ⟨rfl, rfl⟩
  clear cf1
  clear hf1
  go_wp2_with fail
  rw [HWD.out]
  refine (make_w ca wd H1.out HB.out BW0.out F1.out hwd1).mono ?_
  rintro e W1 ⟨p, rfl, hs, hb⟩
  have BW1 := Lib.hid (BW0.out.trans (hb.mono (show B ≤ W0.heap.size by have := BW0.out.size; rw [HB.out] at this; exact this)))
  have S := Lib.hid hs
  clear hs hb BW0
  generalize relOf (wd : Int) (A.map (·.2.1)) = rs at *
  have LR := Lib.hid S.out.2
  have cb := build_calls S.out.1 ka kc keys (Hkeys.out.belowB HB.out BW1.out) (by omega) hwd1 (by have := LR.out; omega)
  have KA : Hid (∀ i, i < rs.length → kyAt (rs.map fun r => keyL r keys) i = keyL (rowAt rs i) keys) := Lib.hid (fun i hi => kyAt_map hi)
  have LN : Hid ((rs.map fun r => keyL r keys).length = rs.length) := Lib.hid (by simp)
  have KE : Hid (kysOf rs keys = rs.map fun r => keyL r keys) := Lib.hid rfl
  rw [← KE.out] at cb KA LN
  go_wp2_with fail
  refine (cb).mono ?_
  rintro e W2 ⟨g, rfl, hx, hb⟩
  replace S := Lib.hid (S.out.below hb)
  have BW2 := Lib.hid (BW1.out.trans (hb.mono (show B ≤ W1.heap.size by have := BW1.out.size; rw [HB.out] at this; exact this)))
  have X := Lib.hid hx
  clear hb BW1 hx
  clear cb
  go_wp2_with fail
  obtain ⟨C, hC⟩ : ∃ C, W2.heap.size = C := ⟨_, rfl⟩
  have HC := Lib.hid hC
  have hBC : Hid (B ≤ C) := Lib.hid (by have := BW2.out.size; rw [HB.out, hC] at this; exact this)
  have T0 : Hid (UL C (W2.alloc (.cells #[] 24)) (.slice (some ⟨W2.heap.size, 0, none⟩) 0 0) []) := Lib.hid (UL.nil C W2 (Nat.le_of_eq hC.symm))
  have B0 : Hid (Below C W2 (W2.alloc (.cells #[] 24))) := Lib.hid ((Below.refl _ _).alloc (Nat.le_of_eq hC.symm) _)
  rw [hC] at T0 ⊢
  clear hC
  generalize World.alloc W2 _ = w5 at *
  generalize Value.slice (some ⟨C, 0, none⟩) 0 0 = v0 at *
  obtain ⟨kys, hkys⟩ : ∃ k, kysOf rs keys = k := ⟨_, rfl⟩
  rw [hkys] at KA LN KE
  rw [hkys] at X
  clear hkys
  go_loopw [12, 11] (fun s v wr => ∃ (i : Nat) (L : List RV) (u : Value), i ≤ rs.length ∧ s = .int .i64 i ∧ u = v ∧ L.length ≤ 60 ∧ Hid (UL C wr u L) ∧ Hid (Uniq kys i (L.map (·.2.1))) ∧ Hid (∀ x ∈ L, x.2.1.length ≤ 8) ∧ Hid (Below C W2 wr)) (fun s _ _ => rs.length - (intOf s).toNat)
  case atStart => exact ⟨0, [], v0, Nat.zero_le _, rfl, rfl, by simp, T0, Lib.hid (Uniq.nil kys), Lib.hid (fun x hx => by cases hx), B0⟩
  case round =>
    obtain ⟨i, L, u, hi, rfl, rfl, hL60, U, HU, HU8, HL⟩ := hrel
    have hr60 : rs.length ≤ 60 := LR.out
    obtain ⟨W3, rfl⟩ : ∃ x, x = wr := ⟨wr, rfl⟩
    replace S := Lib.hid (S.out.belowB HC.out HL.out)
    replace X := Lib.hid (X.out.belowB HC.out HL.out)
    have BW3 := Lib.hid (BW2.out.trans (HL.out.mono hBC.out))
    by_cases hlt : i < rs.length
    · have HLw := Lib.hid (S.out.1.2.1 _ (rowAt_mem hlt))
      have hik : i < kys.length := by rw [LN.out]; exact hlt
      have hkl : Hid ((kyAt kys i).length ≤ 8) := Lib.hid (by rw [KA.out i hlt]; have := keyL_len (rowAt rs i) keys; omega)
      go_wp2_with fail
      refine (segLen_calls S.out.1).mono ?_
      rintro e w' ⟨rfl, rfl⟩
      go_wp2_with fail
      refine (segRow_calls S.out.1 i hlt hwd1 (by omega)).mono ?_
      rintro e W4 ⟨ra, rc, rfl, hr, _, hb⟩
      replace S := Lib.hid (S.out.below hb)
      replace X := Lib.hid (X.out.below hb)
      replace U := Lib.hid (U.out.below hb)
      replace HL := Lib.hid (HL.out.trans (hb.mono (show C ≤ W3.heap.size by have := HL.out.size; rw [HC.out] at this; exact this)))
      have BW4 := Lib.hid (BW3.out.trans (hb.mono (show B ≤ W3.heap.size by have := BW3.out.size; rw [HB.out] at this; exact this)))
      have R := Lib.hid hr
      clear hb BW3 hr
      have ck := lawKeyF_calls ra ka rc kc (rowAt rs i) keys W4 R.out (Hkeys.out.belowB HB.out BW4.out) (by rw [HLw.out]; omega) (by omega)
      rw [← KA.out i hlt] at ck
      have OW := Lib.hid (U.out.own.lt)
      go_wp2_with fail
      refine (ck).mono ?_
      rintro e W5 ⟨ya, yc, rfl, hr, hyc, hyf, hb⟩
      clear R
      replace S := Lib.hid (S.out.below hb)
      replace X := Lib.hid (X.out.below hb)
      replace U := Lib.hid (U.out.below hb)
      replace HL := Lib.hid (HL.out.trans (hb.mono (show C ≤ W4.heap.size by have := HL.out.size; rw [HC.out] at this; exact this)))
      have BW5 := Lib.hid (BW4.out.trans (hb.mono (show B ≤ W4.heap.size by have := BW4.out.size; rw [HB.out] at this; exact this)))
      have Y := Lib.hid hr
      clear hb BW4 hr
      have YC := Lib.hid hyc
      have YF : Hid (FreshAt W5 u ya) := Lib.hid (fun p hp => ⟨(hyf p hp).2, fun e => by have h1 := OW.out _ e; have h2 := hyf p hp; omega⟩)
      clear ck hyc hyf OW
      go_wp2_with fail
      refine (segRow_calls S.out.1 i hlt hwd1 (by omega)).mono ?_
      rintro e W6 ⟨ra, rc, rfl, hr, _, hb⟩
      replace S := Lib.hid (S.out.below hb)
      replace X := Lib.hid (X.out.below hb)
      replace U := Lib.hid (U.out.below hb)
      replace Y := Lib.hid (Y.out.below hb)
      replace YF := Lib.hid (YF.out.below hb)
      replace HL := Lib.hid (HL.out.trans (hb.mono (show C ≤ W5.heap.size by have := HL.out.size; rw [HC.out] at this; exact this)))
      have BW6 := Lib.hid (BW5.out.trans (hb.mono (show B ≤ W5.heap.size by have := BW5.out.size; rw [HB.out] at this; exact this)))
      have R := Lib.hid hr
      clear hb BW5 hr
      have ck := key_calls ra ka rc kc (rowAt rs i) keys W6 R.out (Hkeys.out.belowB HB.out BW6.out) (by rw [HLw.out]; omega) (by omega)
      rw [← KA.out i hlt] at ck
      go_wp2_with fail
      refine (ck).mono ?_
      rintro e W7 ⟨za, zc, rfl, hr, _, hb⟩
      clear R
      replace S := Lib.hid (S.out.below hb)
      replace X := Lib.hid (X.out.below hb)
      replace U := Lib.hid (U.out.below hb)
      replace Y := Lib.hid (Y.out.below hb)
      replace YF := Lib.hid (YF.out.below hb)
      replace HL := Lib.hid (HL.out.trans (hb.mono (show C ≤ W6.heap.size by have := HL.out.size; rw [HC.out] at this; exact this)))
      have BW7 := Lib.hid (BW6.out.trans (hb.mono (show B ≤ W6.heap.size by have := BW6.out.size; rw [HB.out] at this; exact this)))
      have Z := Lib.hid hr
      clear hb BW6 hr
      have cc := lawCompare_calls za ya zc yc (kyAt kys i) (kyAt kys i) W7 Z.out Y.out (by have := hkl.out; omega) (by have := hkl.out; omega)
      rw [cmpR_self] at cc
      clear ck
      go_wp2_with fail
      refine (cc).mono ?_
      rintro e W8 ⟨rfl, q7, hq⟩
      have hb : Below W7.heap.size W7 W8 := by rw [hq]; exact below_drewN (Below.refl _ _) _
      clear hq
      clear Z
      replace S := Lib.hid (S.out.below hb)
      replace X := Lib.hid (X.out.below hb)
      replace U := Lib.hid (U.out.below hb)
      replace Y := Lib.hid (Y.out.below hb)
      replace YF := Lib.hid (YF.out.below hb)
      replace HL := Lib.hid (HL.out.trans (hb.mono (show C ≤ W7.heap.size by have := HL.out.size; rw [HC.out] at this; exact this)))
      have BW8 := Lib.hid (BW7.out.trans (hb.mono (show B ≤ W7.heap.size by have := BW7.out.size; rw [HB.out] at this; exact this)))
      clear hb BW7
      have cq := lawProbe_calls (by rw [← KE.out]; exact X.out) S.out.1 ka kc (Hkeys.out.belowB HB.out BW8.out) ya yc (kyAt kys i) Y.out (by have := hkl.out; omega) (by omega) hwd1 (by omega)
      clear cc
      go_wp2_with fail
      refine (cq).mono ?_
      rintro e W9 ⟨rfl, hb⟩
      replace S := Lib.hid (S.out.below hb)
      replace X := Lib.hid (X.out.below hb)
      replace U := Lib.hid (U.out.below hb)
      replace Y := Lib.hid (Y.out.below hb)
      replace YF := Lib.hid (YF.out.below hb)
      replace HL := Lib.hid (HL.out.trans (hb.mono (show C ≤ W8.heap.size by have := HL.out.size; rw [HC.out] at this; exact this)))
      have BW9 := Lib.hid (BW8.out.trans (hb.mono (show B ≤ W8.heap.size by have := BW8.out.size; rw [HB.out] at this; exact this)))
      clear hb BW8 
      clear cq
      obtain ⟨ua, uc, rfl, hRR⟩ := U.out.rrow
      have RR := Lib.hid hRR
      clear hRR
      have hBW9 : Hid (B ≤ W9.heap.size) := Lib.hid (by have := BW9.out.size; rw [HB.out] at this; exact this)
      have hCW9 : Hid (C ≤ W9.heap.size) := Lib.hid (by have := HL.out.size; rw [HC.out] at this; exact this)
      go_wp2_with fail
      go_loopw [72, 14] (fun s t wv => ∃ (k : Nat) (b : Bool), k ≤ L.length ∧ s = .int .i64 k ∧ t = .bool b ∧ Hid (b = decide (¬ kyAt kys i ∈ (L.take k).map (·.2.1))) ∧ Hid (Below W9.heap.size W9 wv)) (fun s _ _ => L.length - (intOf s).toNat)
      case atStart => exact ⟨0, true, Nat.zero_le _, rfl, rfl, Lib.hid (by simp), Lib.hid (Below.refl _ _)⟩
      case round =>
        obtain ⟨k, b, hk, rfl, rfl, HBb, HV⟩ := hrel
        by_cases hkl2 : k < L.length
        · obtain ⟨b1, off1, hua, hb1, hc1, hr1, _⟩ := (RR.out.below HV.out).at hkl2
          cases hua
          have TK : Hid ((L.take (k + 1)).map (·.2.1) = (L.take k).map (·.2.1) ++ [(atV L k).2.1]) := Lib.hid (by rw [List.take_succ_eq_append_getElem hkl2, ← atV_eq hkl2, List.map_append]; rfl)
          have h8 := HU8.out _ (atV_mem hkl2)
          obtain ⟨x, hx⟩ : ∃ x, atV L k = x := ⟨_, rfl⟩
          rw [hx] at hc1 hr1 TK h8
          clear hx
          obtain ⟨xa, xz, xc⟩ := x
          simp only at hc1 hr1 h8 TK
          cases b with
          | false =>
            have NB : Hid (false = decide (¬ kyAt kys i ∈ (L.take (k + 1)).map (·.2.1))) := Lib.hid (by
              have h := HBb.out.symm
              rw [decide_eq_false_iff_not, Classical.not_not] at h
              exact (decide_eq_false (fun hn => hn (by rw [TK.out, List.mem_append]; exact .inl h))).symm)
            clear hr1
            go_wp2_with fail
            go_roundw
            case rel => exact ⟨k + 1, false, by omega, by go_num, rfl, NB, HV⟩
            case measure => simp [intOf]; omega
          | true =>
            have h := HBb.out.symm
            rw [decide_eq_true_eq] at h
            have cc := lawCompare_calls xa ya xc yc xz (kyAt kys i) wr hr1 (Y.out.below HV.out) (by omega) (by have := hkl.out; omega)
            by_cases he : xz = kyAt kys i
            · have NB : Hid (false = decide (¬ kyAt kys i ∈ (L.take (k + 1)).map (·.2.1))) := Lib.hid (decide_eq_false (fun hn => hn (by rw [TK.out, List.mem_append, he]; exact .inr (by simp)))).symm
              rw [he, cmpR_self] at cc
              rw [he] at hc1
              clear he h hr1
              go_wp2_with fail
              refine cc.mono ?_
              rintro e w2 ⟨rfl, q, rfl⟩
              have V2 : Hid (Below W9.heap.size W9 (wr.drewN q)) := Lib.hid (below_drewN HV.out q)
              generalize wr.drewN q = w2 at *
              clear cc
              go_wp2_with fail
              go_roundw
              case rel => exact ⟨k + 1, false, by omega, by go_num, rfl, NB, V2⟩
              case measure => simp [intOf]; omega
            · have NB : Hid (true = decide (¬ kyAt kys i ∈ (L.take (k + 1)).map (·.2.1))) := Lib.hid (decide_eq_true (by rw [TK.out, List.mem_append, List.mem_singleton]; rintro (h1 | h1); exact h h1; exact he h1.symm)).symm
              have t1 : (cmpR xz (kyAt kys i) != 0) = true := by simp only [bne_iff_ne, ne_eq]; exact fun h0 => he (cmpR_eq h0)
              generalize cmpR xz (kyAt kys i) = cv at *
              clear he h hr1
              go_wp2_with fail
              refine cc.mono ?_
              rintro e w2 ⟨rfl, q, rfl⟩
              have V2 : Hid (Below W9.heap.size W9 (wr.drewN q)) := Lib.hid (below_drewN HV.out q)
              generalize wr.drewN q = w2 at *
              clear cc
              go_wp2_with fail
              go_roundw
              case rel => exact ⟨k + 1, true, by omega, by go_num, rfl, NB, V2⟩
              case measure => simp [intOf]; omega
        · obtain ⟨W10, rfl⟩ : ∃ x, x = wr := ⟨wr, rfl⟩
          replace U := Lib.hid (U.out.below HV.out)
          replace Y := Lib.hid (Y.out.below HV.out)
          replace YF := Lib.hid (YF.out.below HV.out)
          have HL2 := Lib.hid (HL.out.trans (HV.out.mono hCW9.out))
          have tk : decide (k < L.length) = false := decide_eq_false hkl2
          have HBe : Hid (b = decide (¬ kyAt kys i ∈ L.map (·.2.1))) := Lib.hid (by have := HBb.out; rw [List.take_of_length_le (by omega)] at this; exact this)
          have hCW : C ≤ W10.heap.size := by have := HL2.out.size; rw [HC.out] at this; exact this
          by_cases hm : kyAt kys i ∈ kys.take i
          · have hb0 : b = false := by rw [HBe.out]; exact decide_eq_false (fun hn => hn ((HU.out.2 _).2 hm))
            subst hb0
            have U2 := Lib.hid (HU.out.old hik hm)
            clear hm
            go_wp2_with fail
            go_roundw
            case rel => exact ⟨i + 1, L, _, by omega, by go_num, rfl, hL60, U, U2, HU8, HL2⟩
            case measure => simp [intOf]; omega
          · have hb0 : b = true := by rw [HBe.out]; exact decide_eq_true (fun hn => hm ((HU.out.2 _).1 hn))
            subst hb0
            have U2 := Lib.hid (HU.out.new hik hm)
            have hUl : L.length + 1 ≤ 60 := by have h1 := U2.out.len; simp at h1; omega
            clear hm
            obtain ⟨i0, hi0, hz0, hz1, hz2⟩ := info_parts info24
            have I := Lib.hid hi0
            have Z0 := Lib.hid hz0
            have Z1 := Lib.hid hz1
            have Z2 := Lib.hid hz2
            clear hi0 hz0 hz1 hz2
            go_wp2_with (first | (at_builtin; refine wpList_append_own_at _ rfl _ _ 22 rfl C 24 i0 (.slice none 0 0) 1 24 Try.underlying22 I.out Z0.out Z1.out Z2.out rfl (by decide) _ _ _ rfl (U.out.own.alloc _) ⟨W10.heap.size, 0, none⟩ 1 1 [.slice ya (kyAt kys i).length yc] rfl rfl ?c1 ?c2 ?c3 ?c4 ?c5 ?_))
            case c1 => exact cell_one_new W10 _ _
            case c2 => intro u hu; simp at hu; subst hu; rfl
            case c3 => unfold maxLen; omega
            case c4 => omega
            case c5 => simp; omega
            intro v1 w7 hown hgrow _ hat
            have U7 := Lib.hid (U.out.push (x := (ya, kyAt kys i, yc)) Y.out YC.out YF.out hown hgrow (by simpa using hat))
            have B7 := Lib.hid (U.out.belowW HL2.out hCW hgrow)
            clear hown hgrow hat
            go_wp2_with fail
            go_roundw
            case rel => exact ⟨i + 1, L ++ [(ya, kyAt kys i, yc)], _, by omega, by go_num, rfl, by rw [List.length_append]; exact hUl, U7, Lib.hid (by rw [List.map_append]; exact U2.out), Lib.hid (fun x hx => by rcases List.mem_append.1 hx with h1 | h1; exact HU8.out x h1; rw [List.mem_singleton] at h1; rw [h1]; exact hkl.out), B7⟩
            case measure => simp [intOf]; omega
    · have tl : decide (i < rs.length) = false := decide_eq_false hlt
      have ei : i = kys.length := by rw [LN.out]; omega
      have E2 : dst kys = L.length := by have h := HU.out; rw [ei] at h; rw [← h.all, List.length_map]
      have e2 : ((dst kys : Int) == (L.length : Int)) = true := by rw [E2]; simp
      clear ei E2
      obtain ⟨ua, uc, rfl, _⟩ := U.out.rrow
      have cq := lawProbe_calls (by rw [← KE.out]; exact X.out) S.out.1 ka kc (Hkeys.out.belowB HB.out BW3.out) qa qc κ (Hκ.out.belowB HB.out BW3.out) (by omega) (by omega) hwd1 (by omega)
      go_wp2_with fail
      refine (segLen_calls S.out.1).mono ?_
      rintro e w' ⟨rfl, rfl⟩
      go_wp2_with fail
      refine (ix_len X.out).mono ?_
      rintro e w' ⟨rfl, rfl⟩
      go_wp2_with fail
      refine cq.mono ?_
      rintro e W4 ⟨rfl, hb⟩
      have BW4 := Lib.hid (BW3.out.trans (hb.mono (show B ≤ W3.heap.size by have := BW3.out.size; rw [HB.out] at this; exact this)))
      clear hb cq
      go_wp2_with fail
      go_ret
      exact ⟨rfl, by rw [HB.out]; exact BW4.out⟩
theorem probes_walk (width : Int) (a : Option Addr) (ca : Nat) (A : List RV) (ka : Option Addr) (kc : Nat) (keys : List Int) (qa : Option Addr) (qc : Nat) (κ : List Int) (w : World) (h1 : NestArgs w a A) (hkeys : Row w ka keys) (mkeys : keys.length ≤ maxLen) (hκ : Row w qa κ) (mκ : κ.length ≤ maxLen) :
    Calls Try.prog 3 #[.int .i64 width, .slice a A.length ca, .slice ka keys.length kc, .slice qa κ.length qc] w (TrueRet5 w) := by
  cases hf1 : fewB A with
  | false => exact probes_v0 width a ca A ka kc keys qa qc κ w h1 hkeys mkeys hκ mκ hf1
  | true =>
    by_cases gkeys : 8 < keys.length
    · exact probes_v1 width a ca A ka kc keys qa qc κ w h1 hkeys mkeys hκ mκ hf1 gkeys
    by_cases gκ : 8 < κ.length
    · exact probes_v2 width a ca A ka kc keys qa qc κ w h1 hkeys mkeys hκ mκ hf1 (by omega) gκ
    exact probes_full width a ca A ka kc keys qa qc κ w h1 hkeys mkeys hκ mκ hf1 (by omega) (by omega)
end Go.Proofs.Ytenlhojdpjedkaa
