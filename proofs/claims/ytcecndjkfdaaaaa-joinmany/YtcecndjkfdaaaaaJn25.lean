/- JoinMany, walked. Written by mkjn25.py. -/
import Derived.Test.YtcecndjkfdaaaaaUl2
import Derived.Test.YtcecndjkfdaaaaaJn24
import Derived.Test.YtcecndjkfdaaaaaJn15
namespace Go.Proofs.Ytcecndjkfdaaaaa
open Go.RowKit Go.Shelf
set_option linter.unusedVariables false
set_option linter.unusedSimpArgs false

theorem tmodN' (i md : Nat) : (i : Int).tmod (md : Int) = ((i % md : Nat) : Int) := by rw [Int.tmod_eq_emod_of_nonneg (by omega)]; simp
theorem cnt_int {md k : Nat} (hmd : md ≤ 16) (hk : k < md) (n : Nat) : ((n : Int) - (k : Int) + (md : Int) - 1).tdiv (md : Int) = (cntM md n k : Int) := by
  rw [cntM_div hmd hk n]
  have e : (n : Int) - (k : Int) + (md : Int) - 1 = ((n + (md - 1 - k) : Nat) : Int) := by omega
  rw [e, Int.tdiv_eq_ediv_of_nonneg (by omega)]
  simp
theorem two_rows {w3 : World} : Row ((w3.alloc (.cells #[.int .i64 1] 3)).alloc (.cells #[.int .i64 0] 3)) (some ⟨w3.heap.size, 0, none⟩) [1] ∧ Row ((w3.alloc (.cells #[.int .i64 1] 3)).alloc (.cells #[.int .i64 0] 3)) (some ⟨w3.heap.size + 1, 0, none⟩) [0] ∧ Below w3.heap.size w3 ((w3.alloc (.cells #[.int .i64 1] 3)).alloc (.cells #[.int .i64 0] 3)) := by
  refine ⟨(row1_new w3 1 3).alloc _, ?_, ((Below.refl _ _).alloc (Nat.le_refl _) _).alloc (by simp) _⟩
  have := row1_new (w3.alloc (.cells #[.int .i64 1] 3)) 0 3
  simpa using this
set_option maxRecDepth 100000 in
set_option maxHeartbeats 8000000 in
theorem joinMany_walk (x0 x1 x2 : Int) (w : World) : Calls Try.prog 6 #[.int .i64 x0, .int .i64 x1, .int .i64 x2] w (TrueRet5 w) := by
  obtain ⟨i0, hi, hz0, hz1, hz2⟩ := info_parts info23
  have I := Lib.hid hi
  have Z0 := Lib.hid hz0
  have Z1 := Lib.hid hz1
  have Z2 := Lib.hid hz2
  clear hi hz0 hz1 hz2
  obtain ⟨n, hn, e0⟩ := maskE x0 6 (by omega) 63 (by decide)
  obtain ⟨m, hm, e1⟩ := maskE x1 6 (by omega) 63 (by decide)
  obtain ⟨md0, hmd0, e2⟩ := maskE x2 4 (by omega) 15 (by decide)
  obtain ⟨md, emd⟩ : ∃ md : Nat, (1 : Int) + (md0 : Int) = (md : Int) := ⟨md0 + 1, by omega⟩
  have hmd1 : 1 ≤ md := by omega
  have hmd : md ≤ 16 := by omega
  have hn' : n < 64 := by omega
  have hm' : m < 64 := by omega
  obtain ⟨B, hB⟩ : ∃ B, w.heap.size = B := ⟨_, rfl⟩
  have HB := Lib.hid hB
  clear hB
  go_enter Try.func6, Try.ntmps6
  go_wp2_with fail
  refine (head8_calls _).mono ?_
  rintro e W0 ⟨rfl, hbh⟩
  rw [HB.out] at hbh
  have BW0 := Lib.hid hbh
  clear hbh
  obtain ⟨C, hC⟩ : ∃ C, W0.heap.size = C := ⟨_, rfl⟩
  have HC := Lib.hid hC
  have hBC : Hid (B ≤ C) := Lib.hid (by have := BW0.out.size; rw [HB.out, hC] at this; exact this)
  have T0 := Lib.hid (UL2.new hC)
  have B0 : Hid (Below C W0 ((W0.alloc (.cells #[] 40)).alloc (.cells #[] 40))) := Lib.hid (((Below.refl _ _).alloc (by omega) _).alloc (by simp; omega) _)
  go_wp2_with fail
  clear hC hn hm hmd0 e0 e1 e2 emd
  generalize World.alloc (World.alloc W0 _) _ = W5 at *
  generalize hv0 : Value.slice (some ⟨C + 1, 0, none⟩) 0 0 = v at *
  clear hv0
  go_loopw [9, 7] (fun s p wr => ∃ (i : Nat) (L1 : List RV) (u : Value), i ≤ n ∧ s = .int .i64 i ∧ u = p ∧ Hid (UL2 C wr u v L1 []) ∧ Hid (L1.map (·.2.1) = rowsA md i) ∧ Hid (Below C W0 wr)) (fun s _ _ => n - (intOf s).toNat)
  case atStart => exact ⟨0, [], _, Nat.zero_le _, rfl, rfl, T0, Lib.hid rfl, B0⟩
  case round =>
    obtain ⟨i, L1, u, hi, rfl, rfl, HU, HR, HL⟩ := hrel
    obtain ⟨X, rfl⟩ : ∃ x, x = wr := ⟨wr, rfl⟩
    have hCX : C ≤ X.heap.size := by have := HL.out.size; rw [HC.out] at this; exact this
    by_cases hlt : i < n
    · have er := tmodN' i md
      have hr : i % md < md := Nat.mod_lt _ (by omega)
      have HRM : Hid (rowA md i = [(i : Int), ((i % md : Nat) : Int)]) := Lib.hid rfl
      have RSU := Lib.hid (rowsA_succ md i)
      generalize hrr : i % md = r at *
      have HRR := Lib.hid hrr
      clear hrr
      have hLi : L1.length ≤ 64 := by have h8 := congrArg List.length HR.out; rw [List.length_map, rowsA_len] at h8; omega
      have RW : Hid (Row (X.alloc (.cells #[.int .i64 ((i : Int)), .int .i64 (((r : Nat) : Int))] 2)) (some ⟨X.heap.size, 0, none⟩) [(i : Int), ((r : Nat) : Int)]) := Lib.hid (row2 (by go_simp) (by go_simp) (by simp))
      have U2 := Lib.hid ((HU.out.below ((Below.refl X.heap.size X).alloc (Nat.le_refl _) (.cells #[.int .i64 ((i : Int)), .int .i64 (((r : Nat) : Int))] 2))))
      have L2' := Lib.hid (HL.out.alloc hCX (.cells #[.int .i64 ((i : Int)), .int .i64 (((r : Nat) : Int))] 2))
      have FR : Hid (∀ p : Addr, some (⟨X.heap.size, 0, none⟩ : Addr) = some p → p.block < (X.alloc (.cells #[.int .i64 ((i : Int)), .int .i64 (((r : Nat) : Int))] 2)).heap.size ∧ u.ownBlock ≠ some p.block ∧ v.ownBlock ≠ some p.block) := Lib.hid (fun p hp => by
        cases hp
        refine ⟨by simp, fun e => ?_, fun e => ?_⟩
        · have := (HU.out.u1.own.lt _ e).2; simp at this
        · have := (HU.out.u2.own.lt _ e).2; simp at this)
      go_wp2_with (first | (at_builtin; refine wpList_append_own_at _ rfl _ _ 22 rfl C 40 i0 (.slice none 0 0) 1 24 Try.underlying22 I.out Z0.out Z1.out Z2.out rfl (by decide) _ _ _ rfl (U2.out.u1.own.alloc _) ⟨X.heap.size + 1, 0, none⟩ 1 1 [.slice (some ⟨X.heap.size, 0, none⟩) 2 2] rfl rfl ?ca1 ?ca2 ?ca3 ?ca4 ?ca5 ?_))
      case ca1 => have := cell_one_new (X.alloc (.cells #[.int .i64 ((i : Int)), .int .i64 (((r : Nat) : Int))] 2)) (.slice (some ⟨X.heap.size, 0, none⟩) 2 2) 40; simpa using this
      case ca2 => intro u hu; simp at hu; subst hu; rfl
      case ca3 => unfold maxLen; omega
      case ca4 => omega
      case ca5 => simp; omega
      intro v1 w7 hown hgrow _ hat7
      have U7 := Lib.hid ((U2.out.push (x := (some ⟨X.heap.size, 0, none⟩, [(i : Int), ((r : Nat) : Int)], 2)) RW.out (by simp) FR.out hown hgrow (by simpa using hat7)))
      have B7 := Lib.hid (U2.out.u1.belowW L2'.out (by simp; omega) hgrow)
      clear hown hgrow hat7
      go_wp2_with fail
      go_roundw
      case rel => exact ⟨i + 1, _, _, by omega, by go_num, rfl, U7, Lib.hid (by rw [List.map_append, HR.out, RSU.out, HRM.out]; rfl), B7⟩
      case measure => simp [intOf]; omega
    · obtain rfl : i = n := by omega
      have tl : decide (i < i) = false := decide_eq_false hlt
      have HUA := HU
      have HRA := HR
      have HLA := HL
      clear HU HR HL hCX hlt T0 B0
      go_wp2_with fail
      go_loopw [10, 8] (fun s p wr => ∃ (i2 : Nat) (L2 : List RV) (v2 : Value), i2 ≤ m ∧ s = .int .i64 i2 ∧ v2 = p ∧ Hid (UL2 C wr u v2 L1 L2) ∧ Hid (L2.map (·.2.1) = rowsB md i2) ∧ Hid (Below C W0 wr)) (fun s _ _ => m - (intOf s).toNat)
      case atStart => exact ⟨0, [], _, Nat.zero_le _, rfl, rfl, HUA, Lib.hid rfl, HLA⟩
      case round =>
        obtain ⟨i2, L2, v2, hi2, rfl, rfl, HU, HR, HL⟩ := hrel
        obtain ⟨X, rfl⟩ : ∃ x, x = wr := ⟨wr, rfl⟩
        have hCX : C ≤ X.heap.size := by have := HL.out.size; rw [HC.out] at this; exact this
        by_cases hlt : i2 < m
        · have er := tmodN' i2 md
          have hr : i2 % md < md := Nat.mod_lt _ (by omega)
          have HRM : Hid (rowB md i2 = [((i2 % md : Nat) : Int), (i2 : Int)]) := Lib.hid rfl
          have RSU := Lib.hid (rowsB_succ md i2)
          generalize hrr : i2 % md = r at *
          have HRR := Lib.hid hrr
          clear hrr
          have hLi : L2.length ≤ 64 := by have h8 := congrArg List.length HR.out; rw [List.length_map, rowsB_len] at h8; omega
          have RW : Hid (Row (X.alloc (.cells #[.int .i64 (((r : Nat) : Int)), .int .i64 ((i2 : Int))] 2)) (some ⟨X.heap.size, 0, none⟩) [((r : Nat) : Int), (i2 : Int)]) := Lib.hid (row2 (by go_simp) (by go_simp) (by simp))
          have U2 := Lib.hid ((HU.out.below ((Below.refl X.heap.size X).alloc (Nat.le_refl _) (.cells #[.int .i64 (((r : Nat) : Int)), .int .i64 ((i2 : Int))] 2))).symm)
          have L2' := Lib.hid (HL.out.alloc hCX (.cells #[.int .i64 (((r : Nat) : Int)), .int .i64 ((i2 : Int))] 2))
          have FR : Hid (∀ p : Addr, some (⟨X.heap.size, 0, none⟩ : Addr) = some p → p.block < (X.alloc (.cells #[.int .i64 (((r : Nat) : Int)), .int .i64 ((i2 : Int))] 2)).heap.size ∧ v2.ownBlock ≠ some p.block ∧ u.ownBlock ≠ some p.block) := Lib.hid (fun p hp => by
            cases hp
            refine ⟨by simp, fun e => ?_, fun e => ?_⟩
            · have := (HU.out.u2.own.lt _ e).2; simp at this
            · have := (HU.out.u1.own.lt _ e).2; simp at this)
          go_wp2_with (first | (at_builtin; refine wpList_append_own_at _ rfl _ _ 22 rfl C 40 i0 (.slice none 0 0) 1 24 Try.underlying22 I.out Z0.out Z1.out Z2.out rfl (by decide) _ _ _ rfl (U2.out.u1.own.alloc _) ⟨X.heap.size + 1, 0, none⟩ 1 1 [.slice (some ⟨X.heap.size, 0, none⟩) 2 2] rfl rfl ?cb1 ?cb2 ?cb3 ?cb4 ?cb5 ?_))
          case cb1 => have := cell_one_new (X.alloc (.cells #[.int .i64 (((r : Nat) : Int)), .int .i64 ((i2 : Int))] 2)) (.slice (some ⟨X.heap.size, 0, none⟩) 2 2) 40; simpa using this
          case cb2 => intro u hu; simp at hu; subst hu; rfl
          case cb3 => unfold maxLen; omega
          case cb4 => omega
          case cb5 => simp; omega
          intro v1 w7 hown hgrow _ hat7
          have U7 := Lib.hid ((U2.out.push (x := (some ⟨X.heap.size, 0, none⟩, [((r : Nat) : Int), (i2 : Int)], 2)) RW.out (by simp) FR.out hown hgrow (by simpa using hat7)).symm)
          have B7 := Lib.hid (U2.out.u1.belowW L2'.out (by simp; omega) hgrow)
          clear hown hgrow hat7
          go_wp2_with fail
          go_roundw
          case rel => exact ⟨i2 + 1, _, _, by omega, by go_num, rfl, U7, Lib.hid (by rw [List.map_append, HR.out, RSU.out, HRM.out]; rfl), B7⟩
          case measure => simp [intOf]; omega
        · obtain rfl : i2 = m := by omega
          have tl2 : decide (i2 < i2) = false := decide_eq_false hlt
          have BX : Hid (Below B w X) := Lib.hid (BW0.out.trans (HL.out.mono hBC.out))
          obtain ⟨ua, uc, rfl, hR1⟩ := HU.out.u1.rrow
          obtain ⟨va, vc, rfl, hR2⟩ := HU.out.u2.rrow
          have hl1 : L1.length = i := by have h8 := congrArg List.length HRA.out; rw [List.length_map, rowsA_len] at h8; exact h8
          have hl2 : L2.length = i2 := by have h8 := congrArg List.length HR.out; rw [List.length_map, rowsB_len] at h8; exact h8
          have cm1 := make_calls 2 ua uc L1 X hR1 (by omega) (by omega) (fun x hx => by
            have h1 : x.2.1 ∈ L1.map (·.2.1) := List.mem_map_of_mem hx
            rw [HRA.out] at h1
            obtain ⟨j, _, hj⟩ := List.mem_map.1 h1
            rw [← hj]; simp [rowA])
          rw [HRA.out, rowsA_rel] at cm1
          have R2 := Lib.hid hR2
          have HL1 := Lib.hid hl1
          have HL2 := Lib.hid hl2
          clear hR1 hR2 hl1 hl2 HU HUA HLA HL hCX
          go_wp2_with fail
          refine cm1.mono ?_
          rintro e Y ⟨p, rfl, hs1, hb1⟩
          have S1 := Lib.hid hs1
          have BY := Lib.hid (BX.out.trans (hb1.mono (show B ≤ X.heap.size by have := BX.out.size; rw [HB.out] at this; exact this)))
          have cm2 := make_calls 2 va vc L2 Y (R2.out.below hb1) (by omega) (by have := HL2.out; omega) (fun x hx => by
            have h1 : x.2.1 ∈ L2.map (·.2.1) := List.mem_map_of_mem hx
            rw [HR.out] at h1
            obtain ⟨j, _, hj⟩ := List.mem_map.1 h1
            rw [← hj]; simp [rowB])
          rw [HR.out] at cm2
          clear cm1 hs1 hb1 R2 BX
          go_wp2_with fail
          refine cm2.mono ?_
          rintro e Z ⟨o, rfl, hs2, hb2⟩
          have S2 := Lib.hid hs2
          have S1' := Lib.hid (S1.out.below hb2)
          have BZ := Lib.hid (BY.out.trans (hb2.mono (show B ≤ Y.heap.size by have := BY.out.size; rw [HB.out] at this; exact this)))
          clear cm2 hs2 hb2 S1 BY HR HRA
          have SL : Hid (sumM (cntM md i) (cntM md i2) md ≤ 70000) := Lib.hid (by
            have h8 := sumM_le (cntM_le md i) (cntM_le md i2) md
            have h9 : i * i2 ≤ 63 * 63 := Nat.mul_le_mul (by omega) (by omega)
            have h7 : md * (i * i2) ≤ 16 * (63 * 63) := Nat.mul_le_mul hmd h9
            omega)
          have SLk : Hid (∀ k, k ≤ md → sumM (cntM md i) (cntM md i2) k ≤ 70000) := Lib.hid (fun k hk => by
            have h8 := sumM_le (cntM_le md i) (cntM_le md i2) k
            have h9 : i * i2 ≤ 63 * 63 := Nat.mul_le_mul (by omega) (by omega)
            have h7 : k * (i * i2) ≤ 16 * (63 * 63) := Nat.mul_le_mul (by omega) h9
            omega)
          have LM := Lib.hid (lenMany md i i2 hmd1)
          have hrb : (relOf ((2 : Nat) : Int) (rowsB md i2)).length ≤ 1000 := by have h8 := rel_len ((2 : Nat) : Int) (rowsB md i2); rw [rowsB_len] at h8; omega
          have HRB := Lib.hid hrb
          clear hrb
          go_wp2_with fail
          go_loopw [14, 13] (fun s t wr => ∃ k q : Nat, k ≤ md ∧ s = .int .i64 k ∧ t = .int .i64 (sumM (cntM md i) (cntM md i2) k) ∧ Hid (wr = Z.drewN q)) (fun s _ _ => md - (intOf s).toNat)
          case atStart => exact ⟨0, 0, Nat.zero_le _, rfl, rfl, Lib.hid rfl⟩
          case round =>
            obtain ⟨k, q, hk, rfl, rfl, HW⟩ := hrel
            have hsk := SLk.out k hk
            by_cases hkl : k < md
            · have ea := cnt_int hmd hkl i
              have eb := cnt_int hmd hkl i2
              have ST : Hid (sumM (cntM md i) (cntM md i2) (k + 1) = sumM (cntM md i) (cntM md i2) k + cntM md i k * cntM md i2 k) := Lib.hid rfl
              have ca1 := cntM_le md i k
              have cb1 := cntM_le md i2 k
              obtain ⟨pr, hpr⟩ : ∃ pr : Nat, cntM md i k * cntM md i2 k = pr := ⟨_, rfl⟩
              have hprl : pr ≤ 63 * 63 := by rw [← hpr]; exact Nat.mul_le_mul (by omega) (by omega)
              have epr : (cntM md i k : Int) * (cntM md i2 k : Int) = (pr : Int) := by rw [← hpr]; simp
              rw [hpr] at ST
              have hmd0 : ((md : Int) == 0) = false := by rw [beq_eq_false_iff_ne]; omega
              clear hpr
              generalize cntM md i k = c1 at *
              generalize cntM md i2 k = c2 at *
              generalize hsm : sumM (cntM md i) (cntM md i2) k = sm at *
              clear hsm
              go_wp2_with fail
              go_quiet (fail)
              rename_i qd
              go_wp2_with fail
              go_roundw
              case rel => exact ⟨k + 1, _, by omega, by go_num, by rw [ST.out]; go_num, Lib.hid (drewM HW.out)⟩
              case measure => simp [intOf]; omega
            · have tk : decide (k < md) = false := decide_eq_false hkl
              obtain rfl : k = md := by omega
              obtain ⟨V, hV⟩ : ∃ V, V = wr := ⟨_, rfl⟩
              have bq : Below Z.heap.size Z wr := by rw [HW.out]; exact below_drewN (Below.refl _ _) q
              have A1 := Lib.hid (S1'.out.below bq)
              have A2 := Lib.hid (S2.out.below bq)
              have BV : Hid (Below B w wr) := Lib.hid (BZ.out.trans (bq.mono (show B ≤ Z.heap.size by have := BZ.out.size; rw [HB.out] at this; exact this)))
              clear bq HW hV
              generalize hsm : sumM (cntM k i) (cntM k i2) k = sm at *
              obtain ⟨tr1, tr2, tb⟩ := two_rows (w3 := wr)
              have Q1 := Lib.hid tr1
              have Q2 := Lib.hid tr2
              have C1 := Lib.hid (A1.out.below tb)
              have C2 := Lib.hid (A2.out.below tb)
              have BV2 := Lib.hid (BV.out.trans (tb.mono (show B ≤ wr.heap.size by have := BV.out.size; rw [HB.out] at this; exact this)))
              clear tr1 tr2 tb A1 A2 BV hsm
              go_wp2_with fail
              generalize World.alloc (World.alloc wr _) _ = V2 at *
              generalize wr.heap.size = h2 at *
              have ch := hash_join C1.out C2.out _ _ 1 1 [1] [0] Q1.out Q2.out (by simp) (by simp) (by omega) (by omega) (by rw [rowsA_len]; omega) HRB.out
              refine ch.mono ?_
              rintro e V3 ⟨ta, tc, rfl, _, hb3⟩
              rw [LM.out]
              have D1 := Lib.hid (C1.out.below hb3)
              have D2 := Lib.hid (C2.out.below hb3)
              have BV3 := Lib.hid (BV2.out.trans (hb3.mono (show B ≤ V2.heap.size by have := BV2.out.size; rw [HB.out] at this; exact this)))
              clear ch hb3 C1 C2 BV2 Q1 Q2
              obtain ⟨tr1, tr2, tb⟩ := two_rows (w3 := V3)
              have Q1 := Lib.hid tr1
              have Q2 := Lib.hid tr2
              have C1 := Lib.hid (D1.out.below tb)
              have C2 := Lib.hid (D2.out.below tb)
              have BV4 := Lib.hid (BV3.out.trans (tb.mono (show B ≤ V3.heap.size by have := BV3.out.size; rw [HB.out] at this; exact this)))
              clear tr1 tr2 tb D1 D2 BV3
              go_wp2_with fail
              generalize World.alloc (World.alloc V3 _) _ = V4 at *
              generalize V3.heap.size = h4 at *
              have cg := merge_join C1.out C2.out _ _ 1 1 [1] [0] Q1.out Q2.out (by simp) (by simp) (by omega) (by omega) (by rw [rowsA_len]; omega) HRB.out
              refine cg.mono ?_
              rintro e V5 ⟨sa, sc, rfl, _, hb5⟩
              rw [LM.out]
              have BF := Lib.hid (BV4.out.trans (hb5.mono (show B ≤ V4.heap.size by have := BV4.out.size; rw [HB.out] at this; exact this)))
              clear cg hb5 C1 C2 BV4 Q1 Q2
              go_wp2_with fail
              go_ret
              exact ⟨rfl, by rw [HB.out]; exact BF.out⟩
end Go.Proofs.Ytcecndjkfdaaaaa
