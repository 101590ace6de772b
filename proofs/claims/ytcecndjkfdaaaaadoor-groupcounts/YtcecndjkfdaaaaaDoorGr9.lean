/- GroupCounts, walked. -/
import Derived.Test.YtcecndjkfdaaaaaDoorGrM2
namespace Go.Proofs.YtcecndjkfdaaaaaDoor
open Go.RowKit
set_option linter.unusedVariables false
set_option linter.unusedSimpArgs false

/-- By counts: always yes. -/
theorem byCount_calls {w : World} {p : Option Addr} {wd : Nat} {rs : List (List Int)} (h : Seg w p wd rs) (ka : Option Addr) (kc : Nat) (keys : List Int) (hk : Row w ka keys) (hkl : keys.length ≤ 900) (hkz : InR keys) (hwd : wd ≤ 900) (hrs : rs.length ≤ 1000) (col : Int) :
    Calls Tryd.prog 13 #[.pointer p, .slice ka keys.length kc, .int .i64 1, .int .i64 col] w fun e w' => ∃ p2, e = .returned (.tuple #[.pointer p2, .bool true]) ∧ Seg w' p2 ((validP wd keys).length + 1) (relOf (((validP wd keys).length + 1 : Nat) : Int) (cntTo (rs.map fun r => keyL r keys) rs.length)) ∧ Below w.heap.size w w' := by
  refine (by_calls h ka kc keys hk hkl hkz hwd hrs 1 col (List.replicate rs.length 0) (by simp) (fun z hz => by have := (List.mem_replicate.1 hz).2; rw [this]; decide) (elements_count h col hrs)).mono ?_
  rw [made_cnt _ _ _ (by simp)]
  rintro e w' (⟨h, _⟩ | ⟨L, p2, hL, he, hs, hb⟩)
  · cases h
  · cases hL; exact ⟨p2, he, hs, hb⟩
theorem keyL_one {r : List Int} {kk : Nat} (h : kk < r.length) : (keyL r [(kk : Int)]).length = 1 := by
  have : (0 : Int) ≤ (kk : Int) ∧ (kk : Int) < (r.length : Int) := ⟨by omega, by omega⟩
  simp [keyL, this]
theorem valid_one {wd kk : Nat} (h : kk < wd) : (validP wd [(kk : Int)]).length = 1 := by
  have : (0 : Int) ≤ (kk : Int) ∧ (kk : Int) < (wd : Int) := ⟨by omega, by omega⟩
  simp [validP, this]
theorem lit11 {w : World} {B : Nat} (hB : w.heap.size = B) (x : Int) :
    RRow ((w.alloc (.cells #[.int .i64 x] 2)).alloc (.cells #[.slice (some ⟨B, 0, none⟩) 1 1] 22)) (some ⟨B + 1, 0, none⟩) [(some ⟨B, 0, none⟩, [x], 1)] ∧
    Below B w ((w.alloc (.cells #[.int .i64 x] 2)).alloc (.cells #[.slice (some ⟨B, 0, none⟩) 1 1] 22)) := by
  refine ⟨⟨.inr ⟨B + 1, 0, rfl, by simp; omega, fun i hi => ?_⟩, fun y hy => ?_⟩, ((Below.refl _ _).alloc (by omega) _).alloc (by simp; omega) _⟩
  · match i, hi with
    | 0, _ => subst hB; go_simp; rfl
  · simp only [List.mem_cons, List.not_mem_nil, or_false] at hy
    rcases hy with rfl
    exact ⟨row1 (by subst hB; go_simp) (by simp; omega), by simp⟩
theorem rel_one (n : Int) : relOf ((1 : Nat) : Int) [[n]] = [[n]] := by
  unfold relOf
  simp [ins_nil]
section
variable {w : World} {a : Option Addr} {A : List RV} (width : Int) (ca : Nat) (key : Int)
set_option maxRecDepth 100000 in
set_option maxHeartbeats 4000000 in
theorem groupCounts_few (hw : Words w) (h1 : NestArgs w a A ∧ ∀ x ∈ A, InR x.2.1) (hf1 : fewB A = true) :
    Calls Tryd.prog 5 #[.int .i64 width, .slice a A.length ca, .int .i64 key] w (TrueRet5 w) := by
  obtain ⟨B, hB⟩ : ∃ B, w.heap.size = B := ⟨_, rfl⟩
  have HB := Lib.hid hB
  have H1 := Lib.hid h1
  have ch := head9_calls w hw
  clear h1 hB hw
  have F1 := Lib.hid (few_ok hf1)
  obtain ⟨wd, hwd1, hwd4, hwd⟩ := width4 width
  obtain ⟨kk, hkk, hkey⟩ := key4 key wd hwd1 hwd4
  have hu : IntKind.u64.wrap (wd : Int) = (wd : Int) := by rw [IntKind.wrap_u64]; omega
  rw [hu] at hkey
  have hz : ((wd : Int) == 0) = false := beq_eq_false_iff_ne.2 (by omega)
  have hz2 : ¬ (wd : Int) = 0 := by omega
  have hz3 : ¬ wd = 0 := by omega
  go_enter Tryd.func5, Tryd.ntmps5
  go_wp2_with fail
  refine ch.mono ?_
  rintro e W0 ⟨rfl, hbh⟩
  rw [HB.out] at hbh
  have BW0 := Lib.hid hbh
  clear hbh ch
  have cf1 := few_w ca H1.out.1 HB.out BW0.out
  rw [hf1] at cf1
  go_wp2_with fail
  refine cf1.mono ?_
  rintro e w' ⟨rfl, rfl⟩
  clear cf1 hf1
  go_wp2_with fail
  rw [hkey]
  clear hwd hkey hu hz hz2 hz3
  refine (make_w ca wd H1.out.1 HB.out BW0.out F1.out (by omega)).mono ?_
  rintro e W1 ⟨p, rfl, hs, hb⟩
  have BW1 := Lib.hid (BW0.out.trans (hb.mono (show B ≤ W0.heap.size by have := BW0.out.size; rw [HB.out] at this; exact this)))
  have S := Lib.hid hs
  clear hs hb BW0
  generalize relOf (wd : Int) (A.map (·.2.1)) = rs at *
  have LR := S.out.2
  have hB1 : B ≤ W1.heap.size := by have := BW1.out.size; rw [HB.out] at this; exact this
  have BA : Below W1.heap.size W1 (W1.alloc (.cells #[.int .i64 kk] 3)) := (Below.refl _ _).alloc (Nat.le_refl _) _
  have Q1 := Lib.hid (row1_new W1 (kk : Int) 3)
  have S2 := Lib.hid (S.out.1.below BA)
  have B2 : Hid (Below B w (W1.alloc (.cells #[.int .i64 kk] 3))) := Lib.hid (BW1.out.trans (BA.mono hB1))
  have WR : Hid (∀ r ∈ rs, r.length = wd) := Lib.hid S.out.1.2.1
  go_wp2_with fail
  clear BA BW1
  generalize World.alloc W1 _ = W2 at *
  have hB2 : B ≤ W2.heap.size := by have := B2.out.size; rw [HB.out] at this; exact this
  have zk : InR [(kk : Int)] := fun z hz => by
    have e : z = (kk : Int) := by simpa using hz
    rw [e]; omega
  have cb := byCount_calls S2.out _ 1 [(kk : Int)] Q1.out (by simp) zk (by omega) (by omega) (-1)
  rw [valid_one hkk] at cb
  have CR : Hid ((∀ r ∈ relOf ((2 : Nat) : Int) (cntTo (rs.map fun r => keyL r [(kk : Int)]) rs.length), r.length = 2 ∧ (1 : Int) ≤ sndOf r) ∧ ((relOf ((2 : Nat) : Int) (cntTo (rs.map fun r => keyL r [(kk : Int)]) rs.length)).map sndOf).sum = (rs.length : Int)) := Lib.hid (by
    have := cnt_rel (kys := rs.map fun r => keyL r [(kk : Int)]) (fun κ hκ => by
      obtain ⟨r, hr, rfl⟩ := List.mem_map.1 hκ
      exact keyL_one (by rw [WR.out r hr]; exact hkk))
    rw [List.length_map] at this; exact this)
  have RL : Hid ((relOf ((2 : Nat) : Int) (cntTo (rs.map fun r => keyL r [(kk : Int)]) rs.length)).length ≤ 60) := Lib.hid (by
    have h1 := rel_len ((2 : Nat) : Int) (cntTo (rs.map fun r => keyL r [(kk : Int)]) rs.length)
    have h2 := madeR_len (made_cnt (rs.map fun r => keyL r [(kk : Int)]) [] rs.length (by simp))
    omega)
  refine cb.mono ?_
  rintro e W3 ⟨p2, rfl, hs3, hb3⟩
  have hs3' : Seg W3 p2 2 (relOf ((2 : Nat) : Int) (cntTo (rs.map fun r => keyL r [(kk : Int)]) rs.length)) := hs3
  generalize relOf ((2 : Nat) : Int) (cntTo (rs.map fun r => keyL r [(kk : Int)]) rs.length) = R at *
  have S3 := Lib.hid hs3'
  have T3 := Lib.hid (S2.out.below hb3)
  have B3 : Hid (Below B w W3) := Lib.hid (B2.out.trans (hb3.mono hB2))
  have hB3 : B ≤ W3.heap.size := by have := B3.out.size; rw [HB.out] at this; exact this
  clear hs3 hs3' hb3 cb S2 Q1 B2 S
  have cb2 := byCount_calls T3.out none 0 [] (Row.nil _ _) (by simp) (fun z hz => by cases hz) (by omega) (by omega) 0
  go_wp2_with fail
  refine cb2.mono ?_
  rintro e W4 ⟨p4, rfl, hs4, hb4⟩
  rw [keys_bare] at hs4
  have hs4' : Seg W4 p4 1 (relOf ((1 : Nat) : Int) (cntTo (List.replicate rs.length []) rs.length)) := hs4
  have S4 := Lib.hid hs4'
  have G4 := Lib.hid (S3.out.below hb4)
  have T4 := Lib.hid (T3.out.below hb4)
  have B4 : Hid (Below B w W4) := Lib.hid (B3.out.trans (hb4.mono hB3))
  have hB4 : B ≤ W4.heap.size := by have := B4.out.size; rw [HB.out] at this; exact this
  clear hs4 hs4' hb4 cb2 S3 T3 B3
  have PB := Lib.hid (psum_bd (R := R) (fun r hr => (CR.out.1 r hr).2))
  have PT : Hid (psum R R.length = (rs.length : Int)) := Lib.hid (by unfold psum; rw [List.take_length]; exact CR.out.2)
  have hRL := RL.out
  obtain ⟨D, hD⟩ : ∃ D, W4.heap.size = D := ⟨_, rfl⟩
  have HD := Lib.hid hD
  clear hD
  go_wp2_with fail
  go_loopw [13, 12] (fun s v wr => ∃ (i : Nat) (x : Int), i ≤ R.length ∧ s = .int .i64 i ∧ v = .int .i64 x ∧ 0 ≤ x ∧ x ≤ 60 ∧ Hid (x = psum R i) ∧ Hid (Below D W4 wr)) (fun s _ _ => R.length - (intOf s).toNat)
  case atStart => exact ⟨0, 0, Nat.zero_le _, rfl, rfl, by omega, by omega, Lib.hid (by simp [psum]), Lib.hid (Below.refl _ _)⟩
  case round =>
    obtain ⟨i, x, hi, rfl, rfl, hx0, hx1, HX, HBe⟩ := hrel
    have cl := segLen_calls (G4.out.belowB HD.out HBe.out)
    have hDr : D ≤ wr.heap.size := by have := HBe.out.size; rw [HD.out] at this; exact this
    by_cases hlt : i < R.length
    · have cr := segRow_calls (G4.out.belowB HD.out HBe.out) i hlt (by omega) (by omega)
      have ST := Lib.hid (psum_step hlt)
      have two := CR.out.1 _ (rowAt_mem hlt)
      have nb := PB.out (i + 1)
      have E2 : sndOf (rowAt R i) = (rowAt R i)[1]?.getD 0 := rfl
      go_wp2_with fail
      refine cl.mono ?_
      rintro e w' ⟨rfl, rfl⟩
      clear cl
      go_wp2_with fail
      refine cr.mono ?_
      rintro e w5 ⟨ra, rc, rfl, hr5, _, hb5⟩
      obtain ⟨b5, o5, rfl, _, hc5⟩ := hr5.at (k := 1) (by rw [two.1]; omega)
      rw [← E2] at hc5
      rw [two.1]
      have B5 : Hid (Below D W4 w5) := Lib.hid (HBe.out.trans (hb5.mono hDr))
      have y1 := two.2
      have NS : Hid (x + sndOf (rowAt R i) = psum R (i + 1)) := Lib.hid (by rw [ST.out, HX.out])
      have nb2 : psum R (i + 1) ≤ 60 := by have h9 := nb.2; rw [CR.out.2] at h9; omega
      rw [← NS.out] at nb2
      have t1 : decide (sndOf (rowAt R i) < 1) = false := decide_eq_false (by omega)
      generalize sndOf (rowAt R i) = y at *
      have hwr : IntKind.i64.wrap (x + y) = x + y := by simp [IntKind.wrap, IntKind.bits, IntKind.signed]; omega
      clear hr5 hb5 cr two E2 nb ST
      go_wp2_with fail
      go_roundw
      case rel => exact ⟨i + 1, x + y, by omega, by go_num, by go_num, by omega, nb2, NS, B5⟩
      case measure => simp [intOf]; omega
    · obtain rfl : i = R.length := by omega
      have hxn : x = (rs.length : Int) := by rw [HX.out, PT.out]
      subst hxn
      have BR : Hid (Below B w wr) := Lib.hid (B4.out.trans (HBe.out.mono (by rw [← HD.out]; exact hB4)))
      have c1 := segLen_calls (T4.out.belowB HD.out HBe.out)
      by_cases h0 : rs.length = 0
      · have t0 : ((rs.length : Int) == 0) = true := by simp [h0]
        have RE : R.length = 0 := by
          cases hR : R with
          | nil => rfl
          | cons r R' =>
            have := PB.out 1
            have h9 := (CR.out.1 r (by rw [hR]; exact List.mem_cons_self ..)).2
            have h8 : psum R 1 = sndOf r := by rw [hR]; simp [psum]
            have h7 := CR.out.2
            omega
        have AE : Hid (cntTo (List.replicate rs.length []) rs.length = []) := Lib.hid (by rw [h0]; rfl)
        have c2 := segLen_calls (G4.out.belowB HD.out HBe.out)
        have S5 := S4.out.belowB HD.out HBe.out
        rw [AE.out] at S5
        have S6 : Seg wr p4 1 [] := S5
        have c3 := segLen_calls S6
        rw [RE] at c2
        clear S5 S6
        go_wp2_with fail
        refine cl.mono ?_
        rintro e w' ⟨rfl, rfl⟩
        clear cl
        go_wp2_with fail
        refine c1.mono ?_
        rintro e w' ⟨rfl, rfl⟩
        go_wp2_with fail
        refine c2.mono ?_
        rintro e w' ⟨rfl, rfl⟩
        go_wp2_with fail
        refine c3.mono ?_
        rintro e w' ⟨rfl, rfl⟩
        go_wp2_with fail
        go_ret
        exact ⟨rfl, by rw [HB.out]; exact BR.out⟩
      · have t0 : ((rs.length : Int) == 0) = false := beq_eq_false_iff_ne.2 (by omega)
        have S5 := S4.out.belowB HD.out HBe.out
        rw [cnt_bare rs.length rs.length (by omega) (Nat.le_refl _), rel_one] at S5
        have HS5 := Lib.hid S5
        obtain ⟨E, hE⟩ : ∃ E, wr.heap.size = E := ⟨_, rfl⟩
        have HE := Lib.hid hE
        have HL2 := Lib.hid (lit11 hE (rs.length : Int))
        clear S5 hE
        go_wp2_with fail
        refine cl.mono ?_
        rintro e w' ⟨rfl, rfl⟩
        clear cl
        go_wp2_with fail
        refine c1.mono ?_
        rintro e w' ⟨rfl, rfl⟩
        go_wp2_with fail
        refine c1.mono ?_
        rintro e w' ⟨rfl, rfl⟩
        clear c1
        go_wp2_with fail
        rw [HE.out]
        have ci := is_calls (HS5.out.belowB HE.out HL2.out.2) _ 1 _ HL2.out.1 (by omega) (by simp) (by simp)
        have B6 : Hid (Below B w ((wr.alloc (.cells #[.int .i64 (rs.length : Int)] 2)).alloc (.cells #[.slice (some ⟨E, 0, none⟩) 1 1] 22))) := Lib.hid (BR.out.trans (HL2.out.2.mono (by have := BR.out.size; rw [HB.out, HE.out] at this; exact this)))
        generalize World.alloc (World.alloc wr _) _ = W6 at *
        refine ci.mono ?_
        rintro e W7 ⟨rfl, hb7⟩
        have B7 : Hid (Below B w W7) := Lib.hid (B6.out.trans (hb7.mono (by have := B6.out.size; rw [HB.out] at this; exact this)))
        clear hb7 ci B6 HL2
        go_wp2_with fail
        go_ret
        exact ⟨rfl, by rw [HB.out]; exact B7.out⟩
set_option maxRecDepth 100000 in
theorem groupCounts_walk (hw : Words w) (h1 : NestArgs w a A ∧ ∀ x ∈ A, InR x.2.1) (bw : -9223372036854775808 ≤ width ∧ width ≤ 9223372036854775807) (bk : -9223372036854775808 ≤ key ∧ key ≤ 9223372036854775807) :
    Calls Tryd.prog 5 #[.int .i64 width, .slice a A.length ca, .int .i64 key] w (TrueRet5 w) := by
  cases hf1 : fewB A with
  | false =>
    have ch := head9_calls w hw
    have H1 := Lib.hid h1
    clear hw h1
    go_enter Tryd.func5, Tryd.ntmps5
    go_wp2_with fail
    refine ch.mono ?_
    rintro e W0 ⟨rfl, hbh⟩
    have BW0 := Lib.hid hbh
    have cf1 := few_w ca H1.out.1 rfl hbh
    rw [hf1] at cf1
    clear hbh ch hf1
    go_wp2_with fail
    refine cf1.mono ?_
    rintro e w' ⟨rfl, rfl⟩
    clear cf1
    go_wp2_with fail
    go_ret
    exact ⟨rfl, BW0.out⟩
  | true => exact groupCounts_few width ca key hw h1 hf1
end
end Go.Proofs.YtcecndjkfdaaaaaDoor
