/- GroupBy, walked. Written by mkgr8.py. -/
import Derived.Test.YtcecndjkfdaaaaaDoorGr7
namespace Go.Proofs.YtcecndjkfdaaaaaDoor
open Go.RowKit
set_option linter.unusedVariables false
set_option linter.unusedSimpArgs false

theorem elL_range {rs : List (List Int)} {wd : Nat} {col : Int} (h : ∀ r ∈ rs, InR r) : InR (elL rs wd col) := by
  intro z hz
  unfold elL at hz
  by_cases hp : posB wd col = true
  · rw [if_pos hp] at hz
    obtain ⟨r, hr, e⟩ := List.mem_map.1 (show z ∈ rs.map fun r => r[col.toNat]?.getD 0 from hz)
    rw [← e]
    exact at_mem (h r hr) _
  · rw [if_neg hp] at hz
    have := (List.mem_replicate.1 hz).2
    rw [this]; decide
theorem elL_len (rs : List (List Int)) (wd : Nat) (col : Int) : (elL rs wd col).length = rs.length := by
  unfold elL; split
  · exact colOf_len _ _
  · simp
theorem lawBy_calls {w : World} {p : Option Addr} {wd : Nat} {rs : List (List Int)} (h : Seg w p wd rs) (ka : Option Addr) (kc : Nat) (keys : List Int) (hk : Row w ka keys) (hkl : keys.length ≤ 900) (hwd : wd ≤ 900) (hrs : rs.length ≤ 1000) (h1 : 0 < rs.length) (k col : Int) (hez : ∀ r ∈ rs, InR r) :
    Calls Tryd.prog 15 #[.pointer p, .slice ka keys.length kc, .int .i64 k, .int .i64 col] w (LByRet w ((validP wd keys).length + 1) (madeTo (rs.map fun r => keyL r keys) (elL rs wd col) k rs.length)) := by
  by_cases h0 : col < 0
  · exact lawByLo h ka kc keys hk hkl hwd hrs h1 k col h0 (elL_range hez)
  · by_cases h2 : (wd : Int) ≤ col
    · exact lawByHi h ka kc keys hk hkl hwd hrs h1 k col h2 (elL_range hez)
    · obtain ⟨c, rfl⟩ : ∃ c : Nat, col = c := ⟨col.toNat, by omega⟩
      exact lawByIn h ka kc keys hk hkl hwd hrs h1 k c (by omega) (elL_range hez)
theorem byOK_calls {w : World} {p : Option Addr} {wd : Nat} {rs : List (List Int)} (h : Seg w p wd rs) (ka : Option Addr) (kc : Nat) (keys : List Int) (hk : Row w ka keys) (hkl : keys.length ≤ 900) (hkz : InR keys) (hwd : wd ≤ 900) (hrs : rs.length ≤ 1000) (k col : Int) (hez : ∀ r ∈ rs, InR r) (hok : k = 1 ∨ (2 ≤ k ∧ k ≤ 4 ∧ 0 ≤ col ∧ col < (wd : Int))) :
    Calls Tryd.prog 13 #[.pointer p, .slice ka keys.length kc, .int .i64 k, .int .i64 col] w (ByRet w ((validP wd keys).length + 1) (madeTo (rs.map fun r => keyL r keys) (elL rs wd col) k rs.length)) := by
  rcases hok with rfl | ⟨h2, h3, h4, h5⟩
  · rw [made_count (elL rs wd col) (List.replicate rs.length 0)]
    exact by_calls h ka kc keys hk hkl hkz hwd hrs 1 col _ (by simp) (fun z hz => by have := (List.mem_replicate.1 hz).2; rw [this]; decide) (elements_count h col hrs)
  · obtain ⟨c, rfl⟩ : ∃ c : Nat, col = c := ⟨col.toNat, by omega⟩
    have e : elL rs wd c = colOf rs c := by unfold elL; rw [if_pos (show posB wd (c : Int) = true from decide_eq_true ⟨by omega, by omega⟩)]; rfl
    rw [e]
    exact by_calls h ka kc keys hk hkl hkz hwd hrs k c _ (colOf_len _ _) (by rw [← e]; exact elL_range hez) (elements_col h k ⟨h2, h3⟩ c (by omega) (by omega) hrs)
theorem byNo_calls {w : World} {p : Option Addr} {wd : Nat} {rs : List (List Int)} (h : Seg w p wd rs) (ka : Option Addr) (kn kc m : Nat) (hwd : wd ≤ 900) (k col : Int) (hn : k < 1 ∨ 4 < k ∨ (2 ≤ k ∧ k ≤ 4 ∧ (col < 0 ∨ (wd : Int) ≤ col))) (hk : -9223372036854775808 ≤ k ∧ k ≤ 9223372036854775807) (hb : -9223372036854775808 ≤ col ∧ col ≤ 9223372036854775807) :
    Calls Tryd.prog 13 #[.pointer p, .slice ka kn kc, .int .i64 k, .int .i64 col] w (ByRet w m none) :=
  by_no k col ka kn kc m (elements_no h k col (by
    rcases hn with h | h | ⟨h1, h2, h3⟩
    · exact .inl h
    · exact .inr (.inl h)
    · exact .inr (.inr ⟨h1, h2, decide_eq_false (by omega)⟩)) (by omega) hk hb)
section
variable {w : World} {a : Option Addr} {A : List RV} (width : Int) (ca : Nat) (ka : Option Addr) (kc : Nat) (keys : List Int) (k col : Int)
set_option maxRecDepth 100000 in
set_option maxHeartbeats 4000000 in
theorem groupBy_few (hw : Words w) (h1 : NestArgs w a A ∧ ∀ x ∈ A, InR x.2.1) (hkeys : Row w ka keys) (hkz : InR keys) (mk : keys.length ≤ 5) (hf1 : fewB A = true) (bk : -9223372036854775808 ≤ k ∧ k ≤ 9223372036854775807) (bc : -9223372036854775808 ≤ col ∧ col ≤ 9223372036854775807) :
    Calls Tryd.prog 4 #[.int .i64 width, .slice a A.length ca, .slice ka keys.length kc, .int .i64 k, .int .i64 col] w (TrueRet5 w) := by
  obtain ⟨B, hB⟩ : ∃ B, w.heap.size = B := ⟨_, rfl⟩
  have HB := Lib.hid hB
  have H1 := Lib.hid h1
  have HK := Lib.hid hkeys
  have HKZ := Lib.hid hkz
  have ch := head9_calls w hw
  have tk : decide ((5 : Int) < (keys.length : Int)) = false := decide_eq_false (by omega)
  clear h1 hB hkeys hkz hw
  have F1 := Lib.hid (few_ok hf1)
  obtain ⟨wd, hwd4, hwd⟩ := width5 width
  have HWD := Lib.hid hwd
  have hwd1 : wd ≤ 900 := by omega
  clear hwd
  go_enter Tryd.func4, Tryd.ntmps4
  go_wp2_with fail
  refine ch.mono ?_
  rintro e W0 ⟨rfl, hbh⟩
  rw [HB.out] at hbh
  have BW0 := Lib.hid hbh
  clear hbh ch
  have cf1 := few_w ca H1.out.1 HB.out BW0.out
  rw [hf1] at cf1
  go_wp2_with fail
  refine cf1.mono ?_
  rintro e w' ⟨rfl, rfl⟩
  clear cf1 hf1
  go_wp2_with fail
  rw [HWD.out]
  refine (make_w ca wd H1.out.1 HB.out BW0.out F1.out (by omega)).mono ?_
  rintro e W1 ⟨p, rfl, hs, hb⟩
  have BW1 := Lib.hid (BW0.out.trans (hb.mono (show B ≤ W0.heap.size by have := BW0.out.size; rw [HB.out] at this; exact this)))
  have S := Lib.hid hs
  have RZ : Hid (∀ r ∈ relOf (wd : Int) (A.map (·.2.1)), InR r) := Lib.hid (fun r hr => by
    obtain ⟨x, hx, rfl⟩ := List.mem_map.1 ((mem_rel _ _ _).1 hr).1
    exact H1.out.2 x hx)
  clear hs hb BW0 HWD
  generalize relOf (wd : Int) (A.map (·.2.1)) = rs at *
  have LR := S.out.2
  have hB1 : B ≤ W1.heap.size := by have := BW1.out.size; rw [HB.out] at this; exact this
  have cl := fun (W : World) (hb : Below W1.heap.size W1 W) => segLen_calls (S.out.1.below hb)
  have HCL := Lib.hid cl
  clear cl
  by_cases hok : k = 1 ∨ (2 ≤ k ∧ k ≤ 4 ∧ 0 ≤ col ∧ col < (wd : Int))
  · have cb := byOK_calls S.out.1 ka kc keys (HK.out.belowB HB.out BW1.out) (by omega) HKZ.out hwd1 (by omega) k col RZ.out hok
    go_wp2_with fail
    refine cb.mono ?_
    intro e W2 hret
    have HBR := Lib.hid hret
    clear hret cb
    by_cases h0 : rs.length = 0
    · obtain rfl : rs = [] := List.eq_nil_of_length_eq_zero h0
      rcases HBR.out with ⟨hn, _⟩ | ⟨L, p2, hL, rfl, hs2, hb2⟩
      · cases hn
      · cases hL
        have hs2' : Seg W2 p2 ((validP wd keys).length + 1) [] := hs2
        have c2 := segLen_calls hs2'
        have c1 := HCL.out W2 hb2
        have B2 : Hid (Below B w W2) := Lib.hid (BW1.out.trans (hb2.mono hB1))
        clear hs2 hs2' hb2 HBR
        go_wp2_with fail
        refine c1.mono ?_
        rintro e w' ⟨rfl, rfl⟩
        go_wp2_with fail
        refine c2.mono ?_
        rintro e w' ⟨rfl, rfl⟩
        go_wp2_with fail
        go_ret
        exact ⟨rfl, by rw [HB.out]; exact B2.out⟩
    · have t0 : ((rs.length : Int) == 0) = false := beq_eq_false_iff_ne.2 (by omega)
      have k1 : decide (k < 1) = false := decide_eq_false (by rcases hok with h | h <;> omega)
      have k4 : decide (4 < k) = false := decide_eq_false (by rcases hok with h | h <;> omega)
      have HOK := Lib.hid hok
      clear hok
      rcases HBR.out with ⟨hn, rfl, hb2⟩ | ⟨L, p2, hL, rfl, hs2, hb2⟩
      · have c1 := HCL.out W2 hb2
        have B2 : Hid (Below B w W2) := Lib.hid (BW1.out.trans (hb2.mono hB1))
        have c3 := lawBy_calls (S.out.1.below hb2) ka kc keys (HK.out.belowB HB.out B2.out) (by omega) hwd1 (by omega) (by omega) k col RZ.out
        rw [hn] at c3
        have hB2 : B ≤ W2.heap.size := by have := B2.out.size; rw [HB.out] at this; exact this
        clear hb2 HBR hn
        rcases HOK.out with h | h
        · have kn : (k != 1) = false := by rw [h]; rfl
          clear h
          go_wp2_with fail
          refine c1.mono ?_
          rintro e w' ⟨rfl, rfl⟩
          go_wp2_with fail
          refine c3.mono ?_
          rintro e W3 (⟨_, rfl, hb3⟩ | ⟨R, g, c9, L9, hR, _⟩)
          rotate_left
          · cases hR
          have B3 : Hid (Below B w W3) := Lib.hid (B2.out.trans (hb3.mono hB2))
          have c2 := segLen_calls (seg_none W3)
          clear hb3 c3
          go_wp2_with fail
          refine c2.mono ?_
          rintro e w' ⟨rfl, rfl⟩
          go_wp2_with fail
          go_ret
          exact ⟨rfl, by rw [HB.out]; exact B3.out⟩
        · have kn : (k != 1) = true := by rw [bne_iff_ne]; omega
          have k5 : decide (col < 0) = false := decide_eq_false (by omega)
          have k6 : decide ((wd : Int) ≤ col) = false := decide_eq_false (by omega)
          clear h
          go_wp2_with fail
          refine c1.mono ?_
          rintro e w' ⟨rfl, rfl⟩
          go_wp2_with fail
          refine c3.mono ?_
          rintro e W3 (⟨_, rfl, hb3⟩ | ⟨R, g, c9, L9, hR, _⟩)
          rotate_left
          · cases hR
          have B3 : Hid (Below B w W3) := Lib.hid (B2.out.trans (hb3.mono hB2))
          have c2 := segLen_calls (seg_none W3)
          clear hb3 c3
          go_wp2_with fail
          refine c2.mono ?_
          rintro e w' ⟨rfl, rfl⟩
          go_wp2_with fail
          go_ret
          exact ⟨rfl, by rw [HB.out]; exact B3.out⟩
      · have c1 := HCL.out W2 hb2
        have B2 : Hid (Below B w W2) := Lib.hid (BW1.out.trans (hb2.mono hB1))
        have c3 := lawBy_calls (S.out.1.below hb2) ka kc keys (HK.out.belowB HB.out B2.out) (by omega) hwd1 (by omega) (by omega) k col RZ.out
        rw [hL] at c3
        have hB2 : B ≤ W2.heap.size := by have := B2.out.size; rw [HB.out] at this; exact this
        have VL : (validP wd keys).length ≤ 5 := Nat.le_trans (validP_len wd keys) mk
        have LL : L.length ≤ 60 := Nat.le_trans (madeR_len hL) LR
        have S2 := Lib.hid hs2
        clear hb2 HBR hL hs2
        rcases HOK.out with h | h
        · have kn : (k != 1) = false := by rw [h]; rfl
          clear h
          go_wp2_with fail
          refine c1.mono ?_
          rintro e w' ⟨rfl, rfl⟩
          go_wp2_with fail
          refine c3.mono ?_
          rintro e W3 (⟨hn, _⟩ | ⟨R, g, c9, L9, hR, rfl, hl9, hr9, hb3⟩)
          · cases hn
          cases hR
          have B3 : Hid (Below B w W3) := Lib.hid (B2.out.trans (hb3.mono hB2))
          have hB3 : B ≤ W3.heap.size := by have := B3.out.size; rw [HB.out] at this; exact this
          have ci := is_calls (S2.out.below hb3) _ c9 L9 hr9 (by omega) (by have := rel_len (((validP wd keys).length + 1 : Nat) : Int) L; omega) hl9.symm
          clear hb3 c3 hl9 hr9
          go_wp2_with fail
          refine ci.mono ?_
          rintro e W4 ⟨rfl, hb4⟩
          have B4 : Hid (Below B w W4) := Lib.hid (B3.out.trans (hb4.mono hB3))
          clear hb4 ci
          go_wp2_with fail
          go_ret
          exact ⟨rfl, by rw [HB.out]; exact B4.out⟩
        · have kn : (k != 1) = true := by rw [bne_iff_ne]; omega
          have k5 : decide (col < 0) = false := decide_eq_false (by omega)
          have k6 : decide ((wd : Int) ≤ col) = false := decide_eq_false (by omega)
          clear h
          go_wp2_with fail
          refine c1.mono ?_
          rintro e w' ⟨rfl, rfl⟩
          go_wp2_with fail
          refine c3.mono ?_
          rintro e W3 (⟨hn, _⟩ | ⟨R, g, c9, L9, hR, rfl, hl9, hr9, hb3⟩)
          · cases hn
          cases hR
          have B3 : Hid (Below B w W3) := Lib.hid (B2.out.trans (hb3.mono hB2))
          have hB3 : B ≤ W3.heap.size := by have := B3.out.size; rw [HB.out] at this; exact this
          have ci := is_calls (S2.out.below hb3) _ c9 L9 hr9 (by omega) (by have := rel_len (((validP wd keys).length + 1 : Nat) : Int) L; omega) hl9.symm
          clear hb3 c3 hl9 hr9
          go_wp2_with fail
          refine ci.mono ?_
          rintro e W4 ⟨rfl, hb4⟩
          have B4 : Hid (Below B w W4) := Lib.hid (B3.out.trans (hb4.mono hB3))
          clear hb4 ci
          go_wp2_with fail
          go_ret
          exact ⟨rfl, by rw [HB.out]; exact B4.out⟩
  · have hno : k < 1 ∨ 4 < k ∨ (2 ≤ k ∧ k ≤ 4 ∧ (col < 0 ∨ (wd : Int) ≤ col)) := by omega
    have cb := byNo_calls S.out.1 ka keys.length kc 0 hwd1 k col hno bk bc
    go_wp2_with fail
    refine cb.mono ?_
    rintro e W2 (⟨_, rfl, hb2⟩ | ⟨L, p2, hL, _⟩)
    rotate_left
    · cases hL
    have c1 := HCL.out W2 hb2
    have B2 : Hid (Below B w W2) := Lib.hid (BW1.out.trans (hb2.mono hB1))
    have c2 := segLen_calls (seg_none W2)
    clear hb2 cb
    by_cases h0 : rs.length = 0
    · have t0 : ((rs.length : Int) == 0) = true := by simp [h0]
      go_wp2_with fail
      refine c1.mono ?_
      rintro e w' ⟨rfl, rfl⟩
      go_wp2_with fail
      refine c2.mono ?_
      rintro e w' ⟨rfl, rfl⟩
      go_wp2_with fail
      go_ret
      exact ⟨rfl, by rw [HB.out]; exact B2.out⟩
    · have t0 : ((rs.length : Int) == 0) = false := beq_eq_false_iff_ne.2 (by omega)
      by_cases e1 : k < 1
      · have k1 : decide (k < 1) = true := decide_eq_true e1
        clear hno hok e1
        go_wp2_with fail
        refine c1.mono ?_
        rintro e w' ⟨rfl, rfl⟩
        go_wp2_with fail
        refine c2.mono ?_
        rintro e w' ⟨rfl, rfl⟩
        go_wp2_with fail
        go_ret
        exact ⟨rfl, by rw [HB.out]; exact B2.out⟩
      by_cases e2 : 4 < k
      · have k1 : decide (k < 1) = false := decide_eq_false e1
        have k4 : decide (4 < k) = true := decide_eq_true e2
        clear hno hok e1
        go_wp2_with fail
        refine c1.mono ?_
        rintro e w' ⟨rfl, rfl⟩
        go_wp2_with fail
        refine c2.mono ?_
        rintro e w' ⟨rfl, rfl⟩
        go_wp2_with fail
        go_ret
        exact ⟨rfl, by rw [HB.out]; exact B2.out⟩
      have k1 : decide (k < 1) = false := decide_eq_false e1
      have k4 : decide (4 < k) = false := decide_eq_false e2
      have kn : (k != 1) = true := by rw [bne_iff_ne]; intro e; subst e; omega
      by_cases e3 : col < 0
      · have k5 : decide (col < 0) = true := decide_eq_true e3
        clear hno hok e1
        go_wp2_with fail
        refine c1.mono ?_
        rintro e w' ⟨rfl, rfl⟩
        go_wp2_with fail
        refine c2.mono ?_
        rintro e w' ⟨rfl, rfl⟩
        go_wp2_with fail
        go_ret
        exact ⟨rfl, by rw [HB.out]; exact B2.out⟩
      · have k5 : decide (col < 0) = false := decide_eq_false e3
        have k6 : decide ((wd : Int) ≤ col) = true := decide_eq_true (by omega)
        clear hno hok e1
        go_wp2_with fail
        refine c1.mono ?_
        rintro e w' ⟨rfl, rfl⟩
        go_wp2_with fail
        refine c2.mono ?_
        rintro e w' ⟨rfl, rfl⟩
        go_wp2_with fail
        go_ret
        exact ⟨rfl, by rw [HB.out]; exact B2.out⟩
set_option maxRecDepth 100000 in
theorem groupBy_walk (hw : Words w) (h1 : NestArgs w a A ∧ ∀ x ∈ A, InR x.2.1) (hkeys : Row w ka keys) (hkz : InR keys) (mk : keys.length ≤ maxLen) (bw : -9223372036854775808 ≤ width ∧ width ≤ 9223372036854775807) (bk : -9223372036854775808 ≤ k ∧ k ≤ 9223372036854775807) (bc : -9223372036854775808 ≤ col ∧ col ≤ 9223372036854775807) :
    Calls Tryd.prog 4 #[.int .i64 width, .slice a A.length ca, .slice ka keys.length kc, .int .i64 k, .int .i64 col] w (TrueRet5 w) := by
  cases hf1 : fewB A with
  | false =>
    have ch := head9_calls w hw
    have H1 := Lib.hid h1
    clear hkeys hkz hw h1 mk
    go_enter Tryd.func4, Tryd.ntmps4
    go_wp2_with fail
    refine ch.mono ?_
    rintro e W0 ⟨rfl, hbh⟩
    have BW0 := Lib.hid hbh
    have cf1 := few_w ca H1.out.1 rfl hbh
    rw [hf1] at cf1
    clear hbh ch hf1
    go_wp2_with fail
    refine cf1.mono ?_
    rintro e w' ⟨rfl, rfl⟩
    clear cf1
    go_wp2_with fail
    go_ret
    exact ⟨rfl, BW0.out⟩
  | true =>
    by_cases h5 : keys.length ≤ 5
    · exact groupBy_few width ca ka kc keys k col hw h1 hkeys hkz h5 hf1 bk bc
    · have ch := head9_calls w hw
      have H1 := Lib.hid h1
      unfold maxLen at mk
      have tk : decide ((5 : Int) < (keys.length : Int)) = true := decide_eq_true (by omega)
      clear hkeys hkz hw h1 h5
      go_enter Tryd.func4, Tryd.ntmps4
      go_wp2_with fail
      refine ch.mono ?_
      rintro e W0 ⟨rfl, hbh⟩
      have BW0 := Lib.hid hbh
      have cf1 := few_w ca H1.out.1 rfl hbh
      rw [hf1] at cf1
      clear hbh ch hf1
      go_wp2_with fail
      refine cf1.mono ?_
      rintro e w' ⟨rfl, rfl⟩
      clear cf1
      go_wp2_with fail
      go_ret
      exact ⟨rfl, BW0.out⟩
end
end Go.Proofs.YtcecndjkfdaaaaaDoor
