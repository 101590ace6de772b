/- The walk of IndexWhole. Written by mkix10.py. -/
import Derived.Test.YtenlhojdpjedkaaIx11
namespace Go.Proofs.Ytenlhojdpjedkaa
open Go.RowKit
set_option linter.unusedVariables false
set_option linter.unusedSimpArgs false

set_option maxRecDepth 100000 in
set_option maxHeartbeats 4000000 in
theorem whole_v0 (width : Int) (a : Option Addr) (ca : Nat) (A : List RV) (ka : Option Addr) (kc : Nat) (keys : List Int) (w : World) (h1 : NestArgs w a A) (hkeys : Row w ka keys) (mkeys : keys.length ≤ maxLen) (hf1 : fewB A = false) :
    Calls Try.prog 6 #[.int .i64 width, .slice a A.length ca, .slice ka keys.length kc] w (TrueRet5 w) := by
  obtain ⟨B, hB⟩ : ∃ B, w.heap.size = B := ⟨_, rfl⟩
  have HB := Lib.hid hB
  have H1 := Lib.hid h1
  have Hkeys := Lib.hid hkeys
  unfold maxLen at mkeys
  clear h1 hB hkeys
  go_enter Try.func6, Try.ntmps6
  go_wp2_with fail
  refine (head7_calls _).mono ?_
  rintro e W0 ⟨rfl, hbh⟩
  rw [HB.out] at hbh
  have BW0 := Lib.hid hbh
  clear hbh
  have cf1 := few_w ca H1.out HB.out BW0.out
  rw [hf1] at cf1
  go_wp2_with fail
  refine cf1.mono ?_
  rintro e w' ⟨rfl, rfl⟩
  clear cf1
  go_wp2_with fail
  go_ret
  exact ⟨rfl, by rw [HB.out]; exact BW0.out⟩
set_option maxRecDepth 100000 in
set_option maxHeartbeats 4000000 in
theorem whole_v1 (width : Int) (a : Option Addr) (ca : Nat) (A : List RV) (ka : Option Addr) (kc : Nat) (keys : List Int) (w : World) (h1 : NestArgs w a A) (hkeys : Row w ka keys) (mkeys : keys.length ≤ maxLen) (hf1 : fewB A = true) (gkeys : 8 < keys.length) :
    Calls Try.prog 6 #[.int .i64 width, .slice a A.length ca, .slice ka keys.length kc] w (TrueRet5 w) := by
  obtain ⟨B, hB⟩ : ∃ B, w.heap.size = B := ⟨_, rfl⟩
  have HB := Lib.hid hB
  have H1 := Lib.hid h1
  have Hkeys := Lib.hid hkeys
  unfold maxLen at mkeys
  clear h1 hB hkeys
  have tkeys : decide ((8 : Int) < (keys.length : Int)) = true := decide_eq_true (by omega)
  go_enter Try.func6, Try.ntmps6
  go_wp2_with fail
  refine (head7_calls _).mono ?_
  rintro e W0 ⟨rfl, hbh⟩
  rw [HB.out] at hbh
  have BW0 := Lib.hid hbh
  clear hbh
  have cf1 := few_w ca H1.out HB.out BW0.out
  rw [hf1] at cf1
  go_wp2_with fail
  refine cf1.mono ?_
  rintro e w' ⟨rfl, rfl⟩
  clear cf1
  go_wp2_with fail
  go_ret
  exact ⟨rfl, by rw [HB.out]; exact BW0.out⟩
set_option maxRecDepth 100000 in
set_option maxHeartbeats 4000000 in
theorem whole_full (width : Int) (a : Option Addr) (ca : Nat) (A : List RV) (ka : Option Addr) (kc : Nat) (keys : List Int) (w : World) (h1 : NestArgs w a A) (hkeys : Row w ka keys) (mkeys : keys.length ≤ maxLen) (hf1 : fewB A = true) (skeys : keys.length ≤ 8) :
    Calls Try.prog 6 #[.int .i64 width, .slice a A.length ca, .slice ka keys.length kc] w (TrueRet5 w) := by
  obtain ⟨B, hB⟩ : ∃ B, w.heap.size = B := ⟨_, rfl⟩
  have HB := Lib.hid hB
  have H1 := Lib.hid h1
  have Hkeys := Lib.hid hkeys
  unfold maxLen at mkeys
  clear h1 hB hkeys
  have tkeys : decide ((8 : Int) < (keys.length : Int)) = false := decide_eq_false (by omega)
  have F1 := Lib.hid (few_ok hf1)
  obtain ⟨wd, hwd4, hwd⟩ := width5 width
  have HWD := Lib.hid hwd
  have hwd1 : wd ≤ 1000 := by omega
  clear hwd
  go_enter Try.func6, Try.ntmps6
  go_wp2_with fail
  refine (head7_calls _).mono ?_
  rintro e W0 ⟨rfl, hbh⟩
  rw [HB.out] at hbh
  have BW0 := Lib.hid hbh
  clear hbh
  have cf1 := few_w ca H1.out HB.out BW0.out
  rw [hf1] at cf1
  go_wp2_with fail
  refine cf1.mono ?_
  rintro e w' ⟨rfl, rfl⟩
  clear cf1
  clear hf1
  go_wp2_with fail
  rw [HWD.out]
  refine (make_w ca wd H1.out HB.out BW0.out F1.out hwd1).mono ?_
  rintro e W1 ⟨p, rfl, hs, hb⟩
  have BW1 := Lib.hid (BW0.out.trans (hb.mono (show B ≤ W0.heap.size by have := BW0.out.size; rw [HB.out] at this; exact this)))
  have S := Lib.hid hs
  clear hs hb BW0
  generalize relOf (wd : Int) (A.map (·.2.1)) = rs at *
  have LR := Lib.hid S.out.2
  have cb := build_calls S.out.1 ka kc keys (Hkeys.out.belowB HB.out BW1.out) (by omega) hwd1 (by have := LR.out; omega)
  have KA : Hid (∀ i, i < rs.length → kyAt (rs.map fun r => keyL r keys) i = keyL (rowAt rs i) keys) := Lib.hid (fun i hi => kyAt_map hi)
  have LN : Hid ((rs.map fun r => keyL r keys).length = rs.length) := Lib.hid (by simp)
  generalize hkys : (rs.map fun r => keyL r keys) = kys at *
  clear hkys
  go_wp2_with fail
  refine (cb).mono ?_
  rintro e W2 ⟨g, rfl, hx, hb⟩
  replace S := Lib.hid (S.out.below hb)
  have BW2 := Lib.hid (BW1.out.trans (hb.mono (show B ≤ W1.heap.size by have := BW1.out.size; rw [HB.out] at this; exact this)))
  have X := Lib.hid hx
  clear hb BW1 hx
  clear cb
  go_wp2_with fail
  go_loopw [11, 9, 10] (fun s t u wr => ∃ (i n c : Nat) (U : List (List Int)), i ≤ rs.length ∧ s = .int .i64 i ∧ t = .int .i64 n ∧ u = .int .i64 c ∧ n ≤ 60 ∧ c ≤ i ∧ Hid (n = cov kys i) ∧ Hid (Uniq kys i U) ∧ Hid (c = U.length) ∧ Hid (Below W2.heap.size W2 wr)) (fun s _ _ _ => rs.length - (intOf s).toNat)
  case atStart => exact ⟨0, 0, 0, [], Nat.zero_le _, rfl, rfl, rfl, by omega, by omega, Lib.hid (cov_zero kys).symm, Lib.hid (Uniq.nil kys), Lib.hid rfl, Lib.hid (Below.refl _ _)⟩
  case round =>
    obtain ⟨i, n, c, U, hi, rfl, rfl, rfl, hn60, hci, HN, HU, HC, HL⟩ := hrel
    have hr60 : rs.length ≤ 60 := LR.out
    obtain ⟨W3, rfl⟩ : ∃ x, x = wr := ⟨wr, rfl⟩
    replace S := Lib.hid (S.out.below HL.out)
    replace X := Lib.hid (X.out.below HL.out)
    have BW3 := Lib.hid (BW2.out.trans (HL.out.mono (show B ≤ W2.heap.size by have := BW2.out.size; rw [HB.out] at this; exact this)))
    by_cases hlt : i < rs.length
    · have HLw := Lib.hid (S.out.1.2.1 _ (rowAt_mem hlt))
      have hik : i < kys.length := by rw [LN.out]; exact hlt
      go_wp2_with fail
      refine (segLen_calls S.out.1).mono ?_
      rintro e w' ⟨rfl, rfl⟩
      go_wp2_with fail
      refine (segRow_calls S.out.1 i hlt hwd1 (by omega)).mono ?_
      rintro e W4 ⟨ra, rc, rfl, hr, _, hb⟩
      replace S := Lib.hid (S.out.below hb)
      replace X := Lib.hid (X.out.below hb)
      replace HL := Lib.hid (HL.out.trans (hb.mono HL.out.size))
      have BW4 := Lib.hid (BW3.out.trans (hb.mono (show B ≤ W3.heap.size by have := BW3.out.size; rw [HB.out] at this; exact this)))
      have R := Lib.hid hr
      clear hb BW3 hr
      have ck := key_calls ra ka rc kc (rowAt rs i) keys W4 R.out (Hkeys.out.belowB HB.out BW4.out) (by rw [HLw.out]; omega) (by omega)
      rw [← KA.out i hlt] at ck
      go_wp2_with fail
      refine (ck).mono ?_
      rintro e W5 ⟨ya, yc, rfl, hr, _, hb⟩
      clear R
      replace S := Lib.hid (S.out.below hb)
      replace X := Lib.hid (X.out.below hb)
      replace HL := Lib.hid (HL.out.trans (hb.mono HL.out.size))
      have BW5 := Lib.hid (BW4.out.trans (hb.mono (show B ≤ W4.heap.size by have := BW4.out.size; rw [HB.out] at this; exact this)))
      have Y := Lib.hid hr
      clear hb BW4 hr
      have hkl : (kyAt kys i).length ≤ 8 := by rw [KA.out i hlt]; have := keyL_len (rowAt rs i) keys; omega
      have cp := ix_probe X.out ya yc (kyAt kys i) Y.out (by omega)
      have HG : Hid ((ints (rowsOf kys (kyAt kys i))).length ≤ 60) := Lib.hid (by rw [ints_len]; have := rowsTo_len kys (kyAt kys i) kys.length; have := LN.out; simp only [rowsOf]; omega)
      clear ck hkl
      go_wp2_with fail
      refine (cp).mono ?_
      rintro e W6 ⟨ga, gc, rfl, hr, hb⟩
      clear Y
      replace S := Lib.hid (S.out.below hb)
      replace X := Lib.hid (X.out.below hb)
      replace HL := Lib.hid (HL.out.trans (hb.mono HL.out.size))
      have BW6 := Lib.hid (BW5.out.trans (hb.mono (show B ≤ W5.heap.size by have := BW5.out.size; rw [HB.out] at this; exact this)))
      have G := Lib.hid hr
      clear hb BW5 hr
      clear cp
      by_cases hm : kyAt kys i ∈ kys.take i
      · have F := first_old hik hm
        have C2 := Lib.hid ((cov_old hik hm).symm)
        have U2 := Lib.hid (HU.out.old hik hm)
        clear hm
        generalize ints (rowsOf kys (kyAt kys i)) = Gs at *
        obtain ⟨gb, go, rfl, _, hc⟩ := G.out.at F.2
        have hc' : W6.cell? ⟨gb, go, none⟩ = some (.int .i64 (Gs[0]?.getD 0)) := hc
        have t1 : ((Gs[0]?.getD 0) == (i : Int)) = false := beq_eq_false_iff_ne.2 F.1
        have t2 : ((Gs.length : Int) == 0) = false := beq_eq_false_iff_ne.2 (by have := F.2; omega)
        have q1 : (0 : Int) < (Gs.length : Int) := by have := F.2; omega
        generalize Gs[0]?.getD 0 = y at *
        clear hc F
        go_wp2_with fail
        go_roundw
        case rel => exact ⟨i + 1, n, c, U, by omega, by go_num, rfl, rfl, hn60, by omega, Lib.hid (by rw [← C2.out]; exact HN.out), U2, HC, HL⟩
        case measure => simp [intOf]; omega
      · have F := first_new hik hm
        have C2 := Lib.hid (cov_new hik hm)
        have U2 := Lib.hid (HU.out.new hik hm)
        rw [← ints_len] at C2
        clear hm
        generalize ints (rowsOf kys (kyAt kys i)) = Gs at *
        obtain ⟨gb, go, rfl, _, hc⟩ := G.out.at F.2
        rw [F.1] at hc
        have hc' : W6.cell? ⟨gb, go, none⟩ = some (.int .i64 i) := hc
        have t2 : ((Gs.length : Int) == 0) = false := beq_eq_false_iff_ne.2 (by have := F.2; omega)
        have q1 : (0 : Int) < (Gs.length : Int) := by have := F.2; omega
        have hgs := HG.out
        have hsum : n + Gs.length ≤ 60 := by have h1 := cov_le kys (i + 1); have h2 := C2.out; have h3 := HN.out; have h4 := LN.out; omega
        clear hc F
        go_wp2_with fail
        go_roundw
        case rel => exact ⟨i + 1, n + Gs.length, c + 1, _, by omega, by go_num, by go_num, by go_num, hsum, by omega, Lib.hid (by rw [C2.out, HN.out]), U2, Lib.hid (by rw [List.length_append, ← HC.out]; rfl), HL⟩
        case measure => simp [intOf]; omega
    · have tl : decide (i < rs.length) = false := decide_eq_false hlt
      have ei : i = kys.length := by rw [LN.out]; omega
      have E1 : n = rs.length := by rw [HN.out, ei, cov_all, LN.out]
      have E2 : c = dst kys := by rw [HC.out]; have h := HU.out; rw [ei] at h; exact h.all
      have e1 : ((n : Int) == (rs.length : Int)) = true := by rw [E1]; simp
      have e2 : ((c : Int) == (dst kys : Int)) = true := by rw [E2]; simp
      clear ei E1 E2
      go_wp2_with fail
      refine (segLen_calls S.out.1).mono ?_
      rintro e w' ⟨rfl, rfl⟩
      go_wp2_with fail
      refine (segLen_calls S.out.1).mono ?_
      rintro e w' ⟨rfl, rfl⟩
      go_wp2_with fail
      refine (ix_len X.out).mono ?_
      rintro e w' ⟨rfl, rfl⟩
      go_wp2_with fail
      go_ret
      exact ⟨rfl, by rw [HB.out]; exact BW3.out⟩
theorem whole_walk (width : Int) (a : Option Addr) (ca : Nat) (A : List RV) (ka : Option Addr) (kc : Nat) (keys : List Int) (w : World) (h1 : NestArgs w a A) (hkeys : Row w ka keys) (mkeys : keys.length ≤ maxLen) :
    Calls Try.prog 6 #[.int .i64 width, .slice a A.length ca, .slice ka keys.length kc] w (TrueRet5 w) := by
  cases hf1 : fewB A with
  | false => exact whole_v0 width a ca A ka kc keys w h1 hkeys mkeys hf1
  | true =>
    by_cases gkeys : 8 < keys.length
    · exact whole_v1 width a ca A ka kc keys w h1 hkeys mkeys hf1 gkeys
    exact whole_full width a ca A ka kc keys w h1 hkeys mkeys hf1 (by omega)
end Go.Proofs.Ytenlhojdpjedkaa
