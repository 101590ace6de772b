/- SyntaxVars, walked. Written by mkszy.py. -/
import Derived.Test.YtaglbeokecbihaaDoorSzZ
import Derived.Deep.CutRange
namespace Go.Proofs.YtaglbeokecbihaaDoor
open Go.RowKit
set_option linter.unusedVariables false
set_option linter.unusedSimpArgs false

attribute [local go_sem ↓] app_rule ldP_rule ldE_rule
set_option maxRecDepth 100000 in
set_option maxHeartbeats 8000000 in
theorem vars_walk (hd : Int) (a0 : Option Addr) (TA : List TV) (c0 : Nat) (agg : Int) (b0 : Option Addr) (R : List PT) (d0 : Nat) (w : World) (hs : STab w) (hT : TIn w.heap.size w a0 TA) (hR : PIn w.heap.size w b0 R) : Calls Tryd.prog 5 #[.agg #[.int .i64 hd, .slice a0 TA.length c0, .int .i64 agg, .slice b0 R.length d0]] w (TrueRet w) := by
  obtain ⟨M, hM⟩ : ∃ M, w.heap.size = M := ⟨_, rfl⟩
  have HM := Lib.hid hM
  have h6 : 6 ≤ M := by have := hs.sz; omega
  have HRC : Hid (RC M w ⟨hd, TA, agg, R⟩ [.int .i64 hd, .slice a0 TA.length c0, .int .i64 agg, .slice b0 R.length d0]) := Lib.hid (by rw [← hM]; exact ⟨a0, c0, b0, d0, rfl, hT, hR⟩)
  obtain ⟨nt, hnt⟩ : ∃ n, TA.length = n := ⟨_, rfl⟩
  obtain ⟨nb, hnb⟩ : ∃ n, R.length = n := ⟨_, rfl⟩
  rw [hnt, hnb] at HRC ⊢
  have HNB := Lib.hid hnb
  have B0 : Hid (Below M w (w.alloc (.cells #[.int .i64 hd, .slice a0 nt c0, .int .i64 agg, .slice b0 nb d0] 67))) := Lib.hid (by rw [← hM]; exact (Below.refl _ _).alloc (Nat.le_refl _) _)
  have Z0 : Hid ((w.alloc (.cells #[.int .i64 hd, .slice a0 nt c0, .int .i64 agg, .slice b0 nb d0] 67)).heap[M]? = some (.cells #[.int .i64 hd, .slice a0 nt c0, .int .i64 agg, .slice b0 nb d0] 67 (0, 0))) := Lib.hid (by rw [← hM]; exact box16 w _ _)
  have S0 : Hid ((w.alloc (.cells #[.int .i64 hd, .slice a0 nt c0, .int .i64 agg, .slice b0 nb d0] 67)).heap.size = M + 1) := Lib.hid (by simp [hM])
  have ch := Lib.hid (head13_calls _ (hs.on h6 B0.out))
  generalize hr0 : (⟨hd, TA, agg, R⟩ : RT) = r at *
  have HRA : Hid (r.T = TA ∧ r.body = R ∧ r.agg = agg ∧ r.hd = hd) := Lib.hid (by rw [← hr0]; exact ⟨rfl, rfl, rfl, rfl⟩)
  clear hM hT hR hnt hnb hr0 hs h6
  have MX := HM.out
  go_enter Tryd.func5, Tryd.ntmps5
  go_wp2_with fail
  refine ch.out.mono ?_
  generalize World.alloc w _ = W0 at *
  rintro e w1 ⟨rfl, hb1⟩
  have B1 : Hid (Below M w w1) := Lib.hid (B0.out.trans (hb1.mono (by rw [S0.out]; omega)))
  have z1 := (hb1.block M (by rw [S0.out]; omega)).trans Z0.out
  have s1 : M + 1 ≤ w1.heap.size := by have := hb1.size; rw [S0.out] at this; exact this
  obtain ⟨H, hH⟩ : ∃ H, w1.heap.size = H := ⟨_, rfl⟩
  have HH := Lib.hid hH
  have CF := Lib.hid (few_calls (some ⟨H, 0, none⟩) [r] 1 (H + 1) (w1.alloc (.cells #[.int .i64 hd, .slice a0 nt c0, .int .i64 agg, .slice b0 nb d0] 67)) (by simp [hH]) (rin_one (HRC.out.on B1.out) hH (by omega)))
  have B2 : Hid (Below M w (w1.alloc (.cells #[.int .i64 hd, .slice a0 nt c0, .int .i64 agg, .slice b0 nb d0] 67))) := Lib.hid (B1.out.alloc (by omega) _)
  have z2 := ((Below.refl w1.heap.size w1).alloc (Nat.le_refl _) (.cells #[.int .i64 hd, .slice a0 nt c0, .int .i64 agg, .slice b0 nb d0] 67)).block M (by omega)
  have Z2 := Lib.hid (z2.trans z1)
  have S2 : Hid ((w1.alloc (.cells #[.int .i64 hd, .slice a0 nt c0, .int .i64 agg, .slice b0 nb d0] 67)).heap.size = H + 1) := Lib.hid (by simp [hH])
  have q0 := cellAt (i := 0) z1 rfl
  have q1 := cellAt (i := 1) z1 rfl
  have q2 := cellAt (i := 2) z1 rfl
  have q3 := cellAt (i := 3) z1 rfl
  have hMH : M + 1 ≤ H := by omega
  clear hb1 z1 hH z2 ch s1
  have HX := HH.out
  go_wp2_with fail
  refine CF.out.mono ?_
  clear q0 q1 q2 q3 CF
  generalize World.alloc w1 _ = W2 at *
  rintro e w2 ⟨bb, rfl, hbf, hb2⟩
  have B3 : Hid (Below M w w2) := Lib.hid (B2.out.trans (hb2.mono (by rw [S2.out]; omega)))
  have z3 := (hb2.block M (by rw [S2.out]; omega)).trans Z2.out
  have s3 : M + 1 ≤ w2.heap.size := by have := hb2.size; rw [S2.out] at this; omega
  clear hb2
  cases bb with
  | false =>
    clear hbf z3
    go_wp2_with fail
    go_ret
    exact ⟨rfl, by rw [HM.out]; exact B3.out⟩
  | true =>
    have hfew : fewR r := (hbf.1 rfl).2 r (List.mem_cons_self ..)
    have CR := Lib.hid (rule_calls (HRC.out.on B3.out) (by omega) hfew)
    have HFW := Lib.hid hfew
    have q0 := cellAt (i := 0) z3 rfl
    have q1 := cellAt (i := 1) z3 rfl
    have q2 := cellAt (i := 2) z3 rfl
    have q3 := cellAt (i := 3) z3 rfl
    have HLN : Hid (1 ≤ (headL r.agg r.T).length ∧ (headL r.agg r.T).length ≤ 6) := Lib.hid (headL_len _ hfew.1)
    have HPN : Hid ((r.body.map ptT).length ≤ 8) := Lib.hid (by rw [List.length_map]; exact hfew.2.1)
    have HNN : Hid (∀ p ∈ r.body.map ptT, ∀ nm x, p = .letx nm x → x.nodes ≤ 1000) := Lib.hid (fun p hp nm x e => by
      obtain ⟨p0, hp0, rfl⟩ := List.mem_map.1 hp
      exact ptT_nodes (hfew.2.2 p0 hp0) e)
    generalize headL r.agg r.T = l at *
    generalize r.body.map ptT = ps at *
    generalize predS (uN r.hd % 6) = pr at *
    generalize agM r.agg = ag at *
    clear hbf z3 hfew
    go_wp2_with fail
    refine CR.out.mono ?_
    clear q0 q1 q2 q3 CR
    rintro e w3 ⟨a, c, b, d, rfl, hb3, hK⟩
    obtain ⟨nl, hnl⟩ : ∃ n, l.length = n := ⟨_, rfl⟩
    obtain ⟨np, hnp⟩ : ∃ n, ps.length = n := ⟨_, rfl⟩
    have HNL := Lib.hid hnl
    have HNP := Lib.hid hnp
    rw [hnl, hnp]
    obtain ⟨Q, hQ⟩ : ∃ Q, w3.heap.size = Q := ⟨_, rfl⟩
    have HQ := Lib.hid hQ
    have b3 : Below M w w3 := B3.out.trans (hb3.mono (by omega))
    have hMQ : M + 1 ≤ Q := by have := hb3.size; omega
    have bA := (Below.refl w3.heap.size w3).alloc (Nat.le_refl _) (.cells #[.string pr, .slice a nl c, .int .i64 ag, .slice b np d, .int .i64 0] 71)
    rw [hQ] at bA hK
    have B4 : Hid (Below M w (w3.alloc (.cells #[.string pr, .slice a nl c, .int .i64 ag, .slice b np d, .int .i64 0] 71))) := Lib.hid (b3.alloc (by omega) _)
    have Z4 : Hid ((w3.alloc (.cells #[.string pr, .slice a nl c, .int .i64 ag, .slice b np d, .int .i64 0] 71)).heap[Q]? = some (.cells #[.string pr, .slice a nl c, .int .i64 ag, .slice b np d, .int .i64 0] 71 (0, 0))) := Lib.hid (by rw [← hQ]; exact box16 w3 _ _)
    have S4 : Hid ((w3.alloc (.cells #[.string pr, .slice a nl c, .int .i64 ag, .slice b np d, .int .i64 0] 71)).heap.size = Q + 1) := Lib.hid (by simp [hQ])
    have hrows := hK (w3.alloc (.cells #[.string pr, .slice a nl c, .int .i64 ag, .slice b np d, .int .i64 0] 71)) (fun k _ h2 => bA.block k h2)
    have HT := Lib.hid hrows.1
    have HP := Lib.hid hrows.2
    have CN := Lib.hid (names_calls a l c Q (w3.alloc (.cells #[.string pr, .slice a nl c, .int .i64 ag, .slice b np d, .int .i64 0] 71)) (by rw [S4.out]; omega) HT.out (by have := HLN.out; omega))
    rw [hnl] at CN
    clear hb3 hK b3 bA hrows hnl hnp hQ
    have QX := HQ.out
    go_wp2_with fail
    refine CN.out.mono ?_
    clear CN
    generalize World.alloc w3 _ = W4 at *
    rintro e w5 ⟨v4, rfl, ho5, hb5⟩
    obtain ⟨Q1, hQ1⟩ : ∃ Q1, Q + 1 = Q1 := ⟨_, rfl⟩
    rw [S4.out, hQ1] at hb5 ho5
    have HQ1 := Lib.hid hQ1
    have hQQ : Q ≤ Q1 := by omega
    have z5 := (hb5.block Q (by omega)).trans Z4.out
    have s5 : Q1 ≤ w5.heap.size := by have := hb5.size; rw [S4.out] at this; omega
    have CV := Lib.hid (atomVars_calls pr a l c Q w5 (by omega) (HT.out.on (hb5.mono hQQ)) (by have := HLN.out; omega))
    rw [HNL.out] at CV
    have HO5 := Lib.hid ho5
    have HB5 := Lib.hid hb5
    obtain ⟨q0, q1, q2, q3, q4⟩ := cells5 z5
    clear hb5 ho5 z5
    go_wp2_with fail
    refine CV.out.mono ?_
    clear q0 q1 q2 q3 q4 CV
    rintro e w6 ⟨v6, rfl, ho6, hb6⟩
    have CS := Lib.hid (same_calls v6 v4 (varsL l) _ _ w6 ho6 (HO5.out.below hb6) (by have := varsL_len l; have := HLN.out; omega))
    have A6 : Hid (NW Q1 W4 v4 (varsL l) w6) := Lib.hid ⟨HB5.out.trans (hb6.mono s5), HO5.out.below hb6, Nat.le_trans s5 hb6.size⟩
    clear ho6 hb6 HO5 HB5 s5
    go_wp2_with fail
    refine CS.out.mono ?_
    clear CS
    rintro e w7 ⟨rfl, hb7⟩
    have AL := Lib.hid (A6.out.below hb7)
    have z7 := (AL.out.bel.block Q (by omega)).trans Z4.out
    obtain ⟨q0, q1, q2, q3, q4⟩ := cells5 z7
    have LT : Hid ((varsL l ++ (ps.take 0).flatMap pVars).length ≤ 100 + 1001 * 0) := Lib.hid (by have := varsL_len l; have := HLN.out; simp; omega)
    have AL : Hid (NW Q1 W4 v4 (varsL l ++ (ps.take 0).flatMap pVars) w7) := Lib.hid (by have h9 := AL.out; simpa using h9)
    have hpn : np ≤ 8 := by have := HPN.out; rw [HNP.out] at this; exact this
    obtain ⟨tl, htl⟩ : ∃ tl, varsL l = tl := ⟨_, rfl⟩
    have HTL := Lib.hid htl
    rw [htl] at AL LT
    clear hb7 z7 A6 htl
    go_wp2_with fail
    clear q0 q1 q2 q3 q4
    go_loopw [4, 34] (fun v i wr => ∃ (k : Nat) (x : Value), k ≤ np ∧ i = .int .i64 k ∧ x = v ∧ Hid (NW Q1 W4 x (tl ++ (ps.take k).flatMap pVars) wr) ∧ Hid ((tl ++ (ps.take k).flatMap pVars).length ≤ 100 + 1001 * k)) (fun _ i _ => np - (intOf i).toNat)
    case atStart => exact ⟨0, _, Nat.zero_le _, rfl, rfl, AL, LT⟩
    case round =>
      obtain ⟨k, x, hk, rfl, rfl, HA, HL⟩ := hrel
      obtain ⟨Y, rfl⟩ : ∃ x, x = wr := ⟨wr, rfl⟩
      by_cases hlt : k < np
      · have hlP : k < ps.length := by rw [HNP.out]; exact hlt
        obtain ⟨g, v0, v1, v2, v3, v4, v5, v6, v7, v8, v9, v10, v11, v12, v13, v14, v15, hadr, hpv, f0, f1, f2, f3, f4, f5, f6, f7, f8, f9, f10, f11, f12, f13, f14, f15⟩ := HP.out.at (HA.out.bel.mono hQQ) hlP
        have hno := HNN.out _ (show ptAt ps k ∈ ps by simp only [ptAt, List.getElem?_eq_getElem hlP, Option.getD_some]; exact List.getElem_mem hlP)
        have TS : Hid (tl ++ (ps.take (k + 1)).flatMap pVars = (tl ++ (ps.take k).flatMap pVars) ++ pVars (ptAt ps k)) := Lib.hid (by
          rw [List.append_assoc, List.take_succ_eq_append_getElem hlP, List.flatMap_append, show ps[k] = ptAt ps k by simp [ptAt, hlP]]
          simp)
        have hpo := pVars_ok hpv hno
        have LN2 : Hid ((tl ++ (ps.take (k + 1)).flatMap pVars).length ≤ 100 + 1001 * (k + 1)) := Lib.hid (by rw [TS.out, List.length_append]; have := HL.out; omega)
        have LLA : Hid ((tl ++ (ps.take k).flatMap pVars).length + (pVars (ptAt ps k)).length ≤ 100000) := Lib.hid (by have := HL.out; omega)
        have LP : Hid ((pVars (ptAt ps k)).length ≤ 100000) := Lib.hid (by omega)
        have hQY : Q ≤ Y.heap.size := by have := HA.out.sz; omega
        clear hpo
        generalize tl ++ (ps.take k).flatMap pVars = acc at *
        generalize ptAt ps k = p at *
        obtain ⟨j0, j1, j2, l2, m2, j3, j4, j5, j6, j7, j8, j9, j10, j11, j12, j13, j14, j15, l15, m15, rfl, rfl, rfl, rfl, rfl, rfl, rfl, rfl, rfl, rfl, rfl, rfl, rfl, rfl, rfl, rfl⟩ := pt_shape hpv
        subst hadr
        obtain ⟨m, hm⟩ : ∃ m, Y.heap.size = m := ⟨_, rfl⟩
        have BY : Hid (Below Y.heap.size Y (Y.alloc (.cells #[.int .i64 j0, .string j1, .slice j2 l2 m2, .int .i64 j3, .int .i64 j4, .string j5, .int .i64 j6, .int .i64 j7, .string j8, .int .i64 j9, .string j10, .int .i64 j11, .string j12, .int .i64 j13, .int .i64 j14, .slice j15 l15 m15] 59))) := Lib.hid ((Below.refl _ _).alloc (Nat.le_refl _) _)
        have ZW3 : Hid ((Y.alloc (.cells #[.int .i64 j0, .string j1, .slice j2 l2 m2, .int .i64 j3, .int .i64 j4, .string j5, .int .i64 j6, .int .i64 j7, .string j8, .int .i64 j9, .string j10, .int .i64 j11, .string j12, .int .i64 j13, .int .i64 j14, .slice j15 l15 m15] 59)).heap[m]? = some (.cells #[.int .i64 j0, .string j1, .slice j2 l2 m2, .int .i64 j3, .int .i64 j4, .string j5, .int .i64 j6, .int .i64 j7, .string j8, .int .i64 j9, .string j10, .int .i64 j11, .string j12, .int .i64 j13, .int .i64 j14, .slice j15 l15 m15] 59 (0, 0))) := Lib.hid (by rw [← hm]; exact box16 Y _ 59)
        have SW3 : Hid ((Y.alloc (.cells #[.int .i64 j0, .string j1, .slice j2 l2 m2, .int .i64 j3, .int .i64 j4, .string j5, .int .i64 j6, .int .i64 j7, .string j8, .int .i64 j9, .string j10, .int .i64 j11, .string j12, .int .i64 j13, .int .i64 j14, .slice j15 l15 m15] 59)).heap.size = m + 1) := Lib.hid (by simp [hm])
        have PV3 := Lib.hid (hpv.on (w' := (Y.alloc (.cells #[.int .i64 j0, .string j1, .slice j2 l2 m2, .int .i64 j3, .int .i64 j4, .string j5, .int .i64 j6, .int .i64 j7, .string j8, .int .i64 j9, .string j10, .int .i64 j11, .string j12, .int .i64 j13, .int .i64 j14, .slice j15 l15 m15] 59))) (BY.out.mono hQY))
        have C27 : Hid (∀ v, Below (Y.alloc (.cells #[.int .i64 j0, .string j1, .slice j2 l2 m2, .int .i64 j3, .int .i64 j4, .string j5, .int .i64 j6, .int .i64 j7, .string j8, .int .i64 j9, .string j10, .int .i64 j11, .string j12, .int .i64 j13, .int .i64 j14, .slice j15 l15 m15] 59)).heap.size (Y.alloc (.cells #[.int .i64 j0, .string j1, .slice j2 l2 m2, .int .i64 j3, .int .i64 j4, .string j5, .int .i64 j6, .int .i64 j7, .string j8, .int .i64 j9, .string j10, .int .i64 j11, .string j12, .int .i64 j13, .int .i64 j14, .slice j15 l15 m15] 59)) v → Calls Tryd.prog 27 #[.agg #[.int .i64 j0, .string j1, .slice j2 l2 m2, .int .i64 j3, .int .i64 j4, .string j5, .int .i64 j6, .int .i64 j7, .string j8, .int .i64 j9, .string j10, .int .i64 j11, .string j12, .int .i64 j13, .int .i64 j14, .slice j15 l15 m15]] v (SsRet v (pVars p))) := Lib.hid (fun v h => pv_calls (PV3.out.on (h.mono (by rw [SW3.out]; omega))) (by have := h.size; rw [SW3.out] at this; omega) hno)
        have C28 : Hid (∀ v, Below (Y.alloc (.cells #[.int .i64 j0, .string j1, .slice j2 l2 m2, .int .i64 j3, .int .i64 j4, .string j5, .int .i64 j6, .int .i64 j7, .string j8, .int .i64 j9, .string j10, .int .i64 j11, .string j12, .int .i64 j13, .int .i64 j14, .slice j15 l15 m15] 59)).heap.size (Y.alloc (.cells #[.int .i64 j0, .string j1, .slice j2 l2 m2, .int .i64 j3, .int .i64 j4, .string j5, .int .i64 j6, .int .i64 j7, .string j8, .int .i64 j9, .string j10, .int .i64 j11, .string j12, .int .i64 j13, .int .i64 j14, .slice j15 l15 m15] 59)) v → Calls Tryd.prog 28 #[.agg #[.int .i64 j0, .string j1, .slice j2 l2 m2, .int .i64 j3, .int .i64 j4, .string j5, .int .i64 j6, .int .i64 j7, .string j8, .int .i64 j9, .string j10, .int .i64 j11, .string j12, .int .i64 j13, .int .i64 j14, .slice j15 l15 m15]] v (SsRet v (pVars p))) := Lib.hid (fun v h => nam_calls (PV3.out.on (h.mono (by rw [SW3.out]; omega))) (by have := h.size; rw [SW3.out] at this; omega) hno)
        have CX : Hid (∀ nm x0, p = .letx nm x0 → j0 = 3 ∧ x0.nodes ≤ 1000 ∧ ∀ v, Below (Y.alloc (.cells #[.int .i64 j0, .string j1, .slice j2 l2 m2, .int .i64 j3, .int .i64 j4, .string j5, .int .i64 j6, .int .i64 j7, .string j8, .int .i64 j9, .string j10, .int .i64 j11, .string j12, .int .i64 j13, .int .i64 j14, .slice j15 l15 m15] 59)).heap.size (Y.alloc (.cells #[.int .i64 j0, .string j1, .slice j2 l2 m2, .int .i64 j3, .int .i64 j4, .string j5, .int .i64 j6, .int .i64 j7, .string j8, .int .i64 j9, .string j10, .int .i64 j11, .string j12, .int .i64 j13, .int .i64 j14, .slice j15 l15 m15] 59)) v → Calls Tryd.prog 29 #[.agg #[.int .i64 j11, .string j12, .int .i64 j13, .int .i64 j14, .slice j15 l15 m15]] v (SsRet v (xVars x0)) ∧ Calls Tryd.prog 30 #[.agg #[.int .i64 j11, .string j12, .int .i64 j13, .int .i64 j14, .slice j15 l15 m15]] v (SsRet v (xVars x0))) := Lib.hid (fun nm x0 e => by
          subst e
          obtain ⟨k1, k2, k3, k4, k5, k6, k7, hcs, hx, hnm, _⟩ := id hpv
          have h9 := congrArg Array.toList hcs
          simp only [List.cons.injEq, Value.int.injEq, Value.string.injEq, Value.slice.injEq, and_true, true_and] at h9
          obtain ⟨h0, rfl, ⟨rfl, rfl, rfl⟩, rfl, rfl, rfl, rfl, rfl, rfl, rfl, rfl, rfl, rfl, rfl, rfl, rfl, rfl, rfl⟩ := h9
          have hxn := hno _ _ rfl
          refine ⟨h0, hxn, fun v h => ?_⟩
          have hv := h.size
          rw [SW3.out] at hv
          have X3 := hx.on (w' := v) ((BY.out.trans (h.mono BY.out.size)).mono hQY)
          exact ⟨exprVars_calls X3 (by omega) hxn, in_all x0 _ _ _ _ _ _ _ _ v X3 (by omega) hxn⟩)
        have CN : Hid ((¬ ∃ nm x, p = .letx nm x) → ((j0 : Int) == 3) = false) := Lib.hid (fun h => by rcases pt_form hpv h with rfl | rfl | rfl <;> rfl)
        have A3 := Lib.hid (HA.out.below BY.out)
        have FSS : Hid (∀ w', Below (Y.alloc (.cells #[.int .i64 j0, .string j1, .slice j2 l2 m2, .int .i64 j3, .int .i64 j4, .string j5, .int .i64 j6, .int .i64 j7, .string j8, .int .i64 j9, .string j10, .int .i64 j11, .string j12, .int .i64 j13, .int .i64 j14, .slice j15 l15 m15] 59)).heap.size (Y.alloc (.cells #[.int .i64 j0, .string j1, .slice j2 l2 m2, .int .i64 j3, .int .i64 j4, .string j5, .int .i64 j6, .int .i64 j7, .string j8, .int .i64 j9, .string j10, .int .i64 j11, .string j12, .int .i64 j13, .int .i64 j14, .slice j15 l15 m15] 59)) w' → w'.cell? ⟨m, 0, none⟩ = some (.int .i64 j0) ∧ (ldP (.pointer (some ⟨m, 0, none⟩))).run Tryd.prog w' = .ok (.agg #[.int .i64 j0, .string j1, .slice j2 l2 m2, .int .i64 j3, .int .i64 j4, .string j5, .int .i64 j6, .int .i64 j7, .string j8, .int .i64 j9, .string j10, .int .i64 j11, .string j12, .int .i64 j13, .int .i64 j14, .slice j15 l15 m15]) w' ∧ (ldE (.pointer (some ⟨m, 11, none⟩))).run Tryd.prog w' = .ok (.agg #[.int .i64 j11, .string j12, .int .i64 j13, .int .i64 j14, .slice j15 l15 m15]) w') := Lib.hid (fun v h => fsP ZW3.out h)
        have LR := ldP_run (row16 f0 f1 f2 f3 f4 f5 f6 f7 f8 f9 f10 f11 f12 f13 f14 f15)
        clear f0 f1 f2 f3 f4 f5 f6 f7 f8 f9 f10 f11 f12 f13 f14 f15 hpv hno hQY PV3 ZW3
        generalize pVars p = tp at *
        go_wp2_with fail
        clear LR
        generalize World.alloc Y _ = W3 at *
        have D3 : Below W3.heap.size W3 W3.drew := (Below.refl _ _).drew
        generalize (Value.agg #[.int .i64 j0, .string j1, .slice j2 l2 m2, .int .i64 j3, .int .i64 j4, .string j5, .int .i64 j6, .int .i64 j7, .string j8, .int .i64 j9, .string j10, .int .i64 j11, .string j12, .int .i64 j13, .int .i64 j14, .slice j15 l15 m15]) = PV at *
        generalize (.agg #[.int .i64 j11, .string j12, .int .i64 j13, .int .i64 j14, .slice j15 l15 m15] : Value) = XE at *
        go_cut [34, 58] from 34 to 63 (fun i v wx => i = .int .i64 k ∧ v = .bool false ∧ Hid (Below W3.heap.size W3 wx))
        case first =>
          by_cases hlet : ∃ nm x, p = .letx nm x
          · obtain ⟨nm, x0, hp0⟩ := hlet
            obtain ⟨h03, hxn, hcx⟩ := CX.out nm x0 hp0
            have C29 := Lib.hid (fun v h => (hcx v h).1)
            have C30 := Lib.hid (fun v h => (hcx v h).2)
            have LX : Hid ((xVars x0).length ≤ 100000) := Lib.hid (by have := xVars_len x0; omega)
            clear hcx hp0 CX CN hxn
            subst h03
            generalize xVars x0 = tx at *
            go_region_held3 (fun w' => Below W3.heap.size W3 w' ∧ w'.cell? ⟨m, 0, none⟩ = some (.int .i64 3) ∧ (ldP (.pointer (some ⟨m, 0, none⟩))).run Tryd.prog w' = .ok PV w' ∧ (ldE (.pointer (some ⟨m, 11, none⟩))).run Tryd.prog w' = .ok XE w')
              (first | (with_reducible exact zS FSS.out D3) | (with_reducible exact zC FSS.out ‹Below W3.heap.size W3 _ ∧ _ ∧ _ ∧ _› ‹Below _ _ _›))
              (first
                | (go_at_call 27; (with_reducible refine (C27.out _ (And.left ‹Below W3.heap.size W3 _ ∧ _ ∧ _ ∧ _›)).mono ?_); rintro e x5 ⟨z5, rfl, ho5, hb5⟩)
                | (go_at_call 28; (with_reducible refine (C28.out _ (And.left ‹Below W3.heap.size W3 _ ∧ _ ∧ _ ∧ _›)).mono ?_); rintro e x6 ⟨z6, rfl, ho6, hb6⟩)
                | (go_at_call 25; (with_reducible refine (same_calls z5 z6 tp _ _ _ (ho5.below hb6) ho6 LP.out).mono ?_); rintro e x7 ⟨rfl, hb7⟩)
                | (go_at_call 29; (with_reducible refine (C29.out _ (And.left ‹Below W3.heap.size W3 _ ∧ _ ∧ _ ∧ _›)).mono ?_); rintro e x8 ⟨z8, rfl, ho8, hb8⟩)
                | (go_at_call 30; (with_reducible refine (C30.out _ (And.left ‹Below W3.heap.size W3 _ ∧ _ ∧ _ ∧ _›)).mono ?_); rintro e x9 ⟨z9, rfl, ho9, hb9⟩)
                | (go_at_call 25; (with_reducible refine (same_calls z8 z9 tx _ _ _ (ho8.below hb9) ho9 LX.out).mono ?_); rintro e x10 ⟨rfl, hb10⟩))
            have D5 : W3.heap.size ≤ x5.heap.size := hb5.size
            have B7 : Below W3.heap.size W3 x7 := ((D3.trans (hb5.mono (Nat.le_refl _))).trans (hb6.mono D5)).trans (hb7.mono (Nat.le_trans D5 hb6.size))
            have B8 := B7.trans (hb8.mono B7.size)
            have B9 := B8.trans (hb9.mono B8.size)
            have B10 := B9.trans (hb10.mono B9.size)
            have BL : Hid (Below W3.heap.size W3 x10) := Lib.hid B10
            clear ho5 ho6 hb5 hb6 hb7 D5 B8 B9 B10 ho8 ho9 hb8 hb9 hb10 B7
            go_wp2_with fail
            go_meet
            exact ⟨rfl, rfl, BL⟩
          · have tf := CN.out hlet
            clear hlet CX CN
            refine wp_region_held_drew (S := fun w' => Below W3.heap.size W3 w' ∧ w'.cell? ⟨m, 0, none⟩ = some (.int .i64 j0) ∧ (ldP (.pointer (some ⟨m, 0, none⟩))).run Tryd.prog w' = .ok PV w' ∧ (ldE (.pointer (some ⟨m, 11, none⟩))).run Tryd.prog w' = .ok XE w') (by kernel_rfl) (zS FSS.out D3) (fun hHeld => ?_)
            refine wpAnyH_take (i := 0) (oi := ⟨some 38, _, _, _, _, _⟩) (v := PV) rfl (by kernel_rfl) (by kernel_rfl) (by kernel_rfl) (fun _ _ _ h => h) (Or.inl ⟨by rfl, fun w hSw => by go_simp⟩) hHeld ?_
            try simp only [Act.put, List.setIfInBounds_toArray, List.set_cons_zero, List.set_cons_succ]
            refine wpAnyH_take (i := 2) (oi := ⟨some 40, _, _, _, _, _⟩) (v := PV) rfl (by kernel_rfl) (by kernel_rfl) (by kernel_rfl) (fun _ _ _ h => h) (Or.inl ⟨by rfl, fun w hSw => by go_simp⟩) hHeld ?_
            try simp only [Act.put, List.setIfInBounds_toArray, List.set_cons_zero, List.set_cons_succ]
            refine wpAnyH_ready (rs := [1]) (by kernel_rfl) (by simp) ?_
            refine AllReadyH.cons (o := ⟨some 39, _, _, _, _, _⟩) rfl (fun K hK => ?_) AllReadyH.nil
            go_simp
            refine (C27.out _ hHeld.1).mono ?_
            rintro e x5 ⟨z5, rfl, ho5, hb5⟩
            refine hK.out _ _ ?_ (fun hHeld => ?_)
            · exact zC FSS.out hHeld hb5
            clear hK K
            try simp only [Act.put, List.setIfInBounds_toArray, List.set_cons_zero, List.set_cons_succ]
            refine wpAnyH_ready (rs := [3]) (by kernel_rfl) (by simp) ?_
            refine AllReadyH.cons (o := ⟨some 41, _, _, _, _, _⟩) rfl (fun K hK => ?_) AllReadyH.nil
            go_simp
            refine (C28.out _ hHeld.1).mono ?_
            rintro e x6 ⟨z6, rfl, ho6, hb6⟩
            refine hK.out _ _ ?_ (fun hHeld => ?_)
            · exact zC FSS.out hHeld hb6
            clear hK K
            try simp only [Act.put, List.setIfInBounds_toArray, List.set_cons_zero, List.set_cons_succ]
            refine wpAnyH_ready (rs := [4]) (by kernel_rfl) (by simp) ?_
            refine AllReadyH.cons (o := ⟨some 42, _, _, _, _, _⟩) rfl (fun K hK => ?_) AllReadyH.nil
            go_simp
            refine (same_calls z5 z6 tp _ _ _ (ho5.below hb6) ho6 LP.out).mono ?_
            rintro e x7 ⟨rfl, hb7⟩
            refine hK.out _ _ ?_ (fun hHeld => ?_)
            · exact zC FSS.out hHeld hb7
            clear hK K
            try simp only [Act.put, List.setIfInBounds_toArray, List.set_cons_zero, List.set_cons_succ]
            refine wpAnyH_take (i := 5) (oi := ⟨some 43, _, _, _, _, _⟩) (v := .bool false) rfl (by kernel_rfl) (by kernel_rfl) (by kernel_rfl) (fun _ _ _ h => h) (Or.inl ⟨by rfl, fun w hSw => by go_simp⟩) hHeld ?_
            try simp only [Act.put, List.setIfInBounds_toArray, List.set_cons_zero, List.set_cons_succ]
            refine wpAnyH_take (i := 6) (oi := ⟨some 44, _, _, _, _, _⟩) (v := .bool false) rfl (by kernel_rfl) (by kernel_rfl) (by kernel_rfl) (fun _ _ _ h => h) (Or.inl ⟨by rfl, fun w hSw => by go_simp⟩) hHeld ?_
            try simp only [Act.put, List.setIfInBounds_toArray, List.set_cons_zero, List.set_cons_succ]
            refine wpAnyH_take (i := 7) (oi := ⟨some 45, _, _, _, _, _⟩) (v := .pointer (some ⟨m, 0, none⟩)) rfl (by kernel_rfl) (by kernel_rfl) (by kernel_rfl) (fun _ _ _ h => h) (Or.inl ⟨by rfl, fun w hSw => by go_simp⟩) hHeld ?_
            try simp only [Act.put, List.setIfInBounds_toArray, List.set_cons_zero, List.set_cons_succ]
            refine wpAnyH_take (i := 8) (oi := ⟨some 46, _, _, _, _, _⟩) (v := .int .i64 j0) rfl (by kernel_rfl) (by kernel_rfl) (by kernel_rfl) (fun _ _ _ h => h) (Or.inl ⟨by rfl, fun w hSw => by go_simp⟩) hHeld ?_
            try simp only [Act.put, List.setIfInBounds_toArray, List.set_cons_zero, List.set_cons_succ]
            refine wpAnyH_take (i := 9) (oi := ⟨some 47, _, _, _, _, _⟩) (v := .bool false) rfl (by kernel_rfl) (by kernel_rfl) (by kernel_rfl) (fun _ _ _ h => h) (Or.inl ⟨by rfl, fun w hSw => by go_simp⟩) hHeld ?_
            try simp only [Act.put, List.setIfInBounds_toArray, List.set_cons_zero, List.set_cons_succ]
            refine wpAnyH_take (i := 10) (oi := ⟨some 48, _, _, _, _, _⟩) (v := .bool false) rfl (by kernel_rfl) (by kernel_rfl) (by kernel_rfl) (fun _ _ _ h => h) (Or.inl ⟨by rfl, fun w hSw => by go_simp⟩) hHeld ?_
            try simp only [Act.put, List.setIfInBounds_toArray, List.set_cons_zero, List.set_cons_succ]
            refine wpAnyH_take (i := 11) (oi := ⟨some 49, _, _, _, _, _⟩) (v := undef) rfl (by kernel_rfl) (by kernel_rfl) (by kernel_rfl) (fun _ _ _ h => h) (Or.inr ⟨by rfl, rfl⟩) hHeld ?_
            try simp only [Act.put, List.setIfInBounds_toArray, List.set_cons_zero, List.set_cons_succ]
            refine wpAnyH_take (i := 12) (oi := ⟨some 50, _, _, _, _, _⟩) (v := undef) rfl (by kernel_rfl) (by kernel_rfl) (by kernel_rfl) (fun _ _ _ h => h) (Or.inr ⟨by rfl, rfl⟩) hHeld ?_
            try simp only [Act.put, List.setIfInBounds_toArray, List.set_cons_zero, List.set_cons_succ]
            refine wpAnyH_take (i := 13) (oi := ⟨some 51, _, _, _, _, _⟩) (v := undef) rfl (by kernel_rfl) (by kernel_rfl) (by kernel_rfl) (fun _ _ _ h => h) (Or.inr ⟨by rfl, rfl⟩) hHeld ?_
            try simp only [Act.put, List.setIfInBounds_toArray, List.set_cons_zero, List.set_cons_succ]
            refine wpAnyH_take (i := 14) (oi := ⟨some 52, _, _, _, _, _⟩) (v := undef) rfl (by kernel_rfl) (by kernel_rfl) (by kernel_rfl) (fun _ _ _ h => h) (Or.inr ⟨by rfl, rfl⟩) hHeld ?_
            try simp only [Act.put, List.setIfInBounds_toArray, List.set_cons_zero, List.set_cons_succ]
            refine wpAnyH_take (i := 15) (oi := ⟨some 53, _, _, _, _, _⟩) (v := undef) rfl (by kernel_rfl) (by kernel_rfl) (by kernel_rfl) (fun _ _ _ h => h) (Or.inr ⟨by rfl, rfl⟩) hHeld ?_
            try simp only [Act.put, List.setIfInBounds_toArray, List.set_cons_zero, List.set_cons_succ]
            refine wpAnyH_take (i := 16) (oi := ⟨some 54, _, _, _, _, _⟩) (v := undef) rfl (by kernel_rfl) (by kernel_rfl) (by kernel_rfl) (fun _ _ _ h => h) (Or.inr ⟨by rfl, rfl⟩) hHeld ?_
            try simp only [Act.put, List.setIfInBounds_toArray, List.set_cons_zero, List.set_cons_succ]
            refine wpAnyH_take (i := 17) (oi := ⟨some 55, _, _, _, _, _⟩) (v := undef) rfl (by kernel_rfl) (by kernel_rfl) (by kernel_rfl) (fun _ _ _ h => h) (Or.inr ⟨by rfl, rfl⟩) hHeld ?_
            try simp only [Act.put, List.setIfInBounds_toArray, List.set_cons_zero, List.set_cons_succ]
            refine wpAnyH_take (i := 18) (oi := ⟨some 56, _, _, _, _, _⟩) (v := undef) rfl (by kernel_rfl) (by kernel_rfl) (by kernel_rfl) (fun _ _ _ h => h) (Or.inr ⟨by rfl, rfl⟩) hHeld ?_
            try simp only [Act.put, List.setIfInBounds_toArray, List.set_cons_zero, List.set_cons_succ]
            refine wpAnyH_take (i := 19) (oi := ⟨some 57, _, _, _, _, _⟩) (v := .bool false) rfl (by kernel_rfl) (by kernel_rfl) (by kernel_rfl) (fun _ _ _ h => h) (Or.inl ⟨by rfl, fun w hSw => by go_simp⟩) hHeld ?_
            try simp only [Act.put, List.setIfInBounds_toArray, List.set_cons_zero, List.set_cons_succ]
            refine wpAnyH_take (i := 20) (oi := ⟨some 58, _, _, _, _, _⟩) (v := .bool false) rfl (by kernel_rfl) (by kernel_rfl) (by kernel_rfl) (fun _ _ _ h => h) (Or.inl ⟨by rfl, fun w hSw => by go_simp⟩) hHeld ?_
            try simp only [Act.put, List.setIfInBounds_toArray, List.set_cons_zero, List.set_cons_succ]
            refine wpAnyH_done (by kernel_rfl) ?_ _
            clear hHeld
            have D5 : W3.heap.size ≤ x5.heap.size := hb5.size
            have B7 : Below W3.heap.size W3 x7 := ((D3.trans (hb5.mono (Nat.le_refl _))).trans (hb6.mono D5)).trans (hb7.mono (Nat.le_trans D5 hb6.size))
            have BL : Hid (Below W3.heap.size W3 x7) := Lib.hid B7
            clear ho5 ho6 hb5 hb6 hb7 D5 B7
            go_wp2_with fail
            go_meet
            exact ⟨rfl, rfl, BL⟩
        case rest =>
          obtain ⟨rfl, rfl, BL⟩ := hcut
          have A6 := Lib.hid (A3.out.below BL.out)
          obtain ⟨_, LR2, _⟩ := FSS.out _ BL.out
          clear CX CN
          go_wp2_with fail
          refine (C28.out _ BL.out).mono ?_
          clear LR2
          rintro e x11 ⟨z11, rfl, ho11, hb11⟩
          obtain ⟨v12, x12, hrun, A12, _⟩ := (A6.out.below hb11).app ho11 LLA.out
          have A13 : Hid (NW Q1 W4 v12 (tl ++ (ps.take (k + 1)).flatMap pVars) x12) := Lib.hid (by rw [TS.out]; exact A12)
          clear A12 ho11 hb11
          go_wp2_with fail
          go_roundw
          case rel => exact ⟨k + 1, _, by omega, by go_num, rfl, A13, LN2⟩
          case measure => simp [intOf]; omega
      · obtain rfl : k = np := by omega
        have TL : Hid (ps.take k = ps) := Lib.hid (List.take_of_length_le (by rw [HNP.out]; exact Nat.le_refl _))
        rw [TL.out] at HA HL
        have LAL : Hid ((tl ++ ps.flatMap pVars).length ≤ 9000) := Lib.hid (by have := HL.out; omega)
        have LSZ : Hid (tl ++ ps.flatMap pVars = varsL l ++ ps.flatMap pVars) := Lib.hid (by rw [HTL.out])
        obtain ⟨a4, c4, rfl, hrow4⟩ := HA.out.own.row
        generalize hall : tl ++ ps.flatMap pVars = all at *
        obtain ⟨na, hna⟩ : ∃ n, all.length = n := ⟨_, rfl⟩
        have HNA := Lib.hid hna
        have HROW := Lib.hid hrow4
        obtain ⟨B2, hB2⟩ : ∃ B2, Y.heap.size = B2 := ⟨_, rfl⟩
        have HB2 := Lib.hid hB2
        have WB : Hid (NW B2 Y (.slice (some ⟨B2, 0, none⟩) 0 0) (news [] (all.take 0)) (Y.alloc (.cells #[] 9))) := Lib.hid ⟨(Below.refl _ _).alloc (by omega) _, so_empty B2 Y hB2 (Nat.le_refl _), by simp [hB2]⟩
        have HAL := Lib.hid HA.out
        have hnl9 : na ≤ 9000 := by have := LAL.out; omega
        rw [hB2] at HROW
        have HALL := Lib.hid hall
        rw [hna]
        clear hall hna hrow4 hB2 HA HL
        have BX2 := HB2.out
        go_wp2_with fail
        go_loopw [7, 67] (fun v i wr => ∃ (k : Nat) (u : Value), k ≤ na ∧ i = .int .i64 k ∧ u = v ∧ Hid (NW B2 Y u (news [] (all.take k)) wr)) (fun _ i _ => na - (intOf i).toNat)
        case atStart => exact ⟨0, _, Nat.zero_le _, rfl, rfl, WB⟩
        case round =>
          obtain ⟨k, u, hk, rfl, rfl, HW⟩ := hrel
          obtain ⟨X, rfl⟩ : ∃ x, x = wr := ⟨wr, rfl⟩
          by_cases hlt : k < na
          · have hlA : k < all.length := by rw [HNA.out]; exact hlt
            obtain ⟨g, rfl, f0⟩ := HROW.out.at HW.out.bel hlA
            have TS := Lib.hid (news_take (ts := []) hlA)
            have LL : Hid ((news [] (all.take k)).length + 1 ≤ 100000) := Lib.hid (by have := news_len (all.take k) []; rw [List.length_take] at this; simp only [List.length_nil] at this; omega)
            obtain ⟨au, cu, rfl, hru⟩ := HW.out.own.row
            have HRU := Lib.hid hru
            generalize news [] (all.take k) = acc at *
            generalize sAt all k = s at *
            obtain ⟨nw, hnw⟩ : ∃ n, acc.length = n := ⟨_, rfl⟩
            have HNW := Lib.hid hnw
            have hnw9 : nw ≤ 100000 := by have := LL.out; omega
            rw [hnw]
            clear hru hnw
            go_wp2_with fail
            go_loop [10, 73] (fun f j => ∃ jn : Nat, jn ≤ nw ∧ j = .int .i64 jn ∧ f = .bool (!mem (acc.take jn) s)) (fun _ j => nw - (intOf j).toNat)
            case atStart => exact ⟨0, Nat.zero_le _, rfl, rfl⟩
            case round =>
              obtain ⟨jn, hj, rfl, rfl⟩ := hrel
              by_cases hjt : jn < nw
              · have hlJ : jn < acc.length := by rw [HNW.out]; exact hjt
                obtain ⟨g2, rfl, f1⟩ := HRU.out.at (Below.refl _ _) hlJ
                have MT : Hid (mem (acc.take (jn + 1)) s = (mem (acc.take jn) s || decide (sAt acc jn = s))) := Lib.hid (by
                  rw [List.take_succ_eq_append_getElem hlJ, mem_snoc, ← sAt_get hlJ])
                generalize sAt acc jn = y at *
                cases hmm : mem (acc.take jn) s with
                | true =>
                  rw [hmm] at MT
                  have M2 : Hid (Value.bool false = Value.bool (!mem (acc.take (jn + 1)) s)) := Lib.hid (by rw [MT.out]; rfl)
                  clear hmm
                  go_wp2_with fail
                  go_round
                  case rel => exact ⟨jn + 1, by omega, by go_num, M2.out⟩
                  case measure => simp [intOf]; omega
                | false =>
                  rw [hmm] at MT
                  clear hmm
                  by_cases e : y = s
                  · have M2 : Hid (Value.bool false = Value.bool (!mem (acc.take (jn + 1)) s)) := Lib.hid (by rw [MT.out, decide_eq_true e]; rfl)
                    subst e
                    go_wp2_with fail
                    go_round
                    case rel => exact ⟨jn + 1, by omega, by go_num, M2.out⟩
                    case measure => simp [intOf]; omega
                  · have M2 : Hid (Value.bool true = Value.bool (!mem (acc.take (jn + 1)) s)) := Lib.hid (by rw [MT.out, decide_eq_false e]; rfl)
                    have tne := toList_ne e
                    go_wp2_with fail
                    go_round
                    case rel => exact ⟨jn + 1, by omega, by go_num, M2.out⟩
                    case measure => simp [intOf]; omega
              · obtain rfl : jn = nw := by omega
                have TA : Hid (acc.take jn = acc) := Lib.hid (List.take_of_length_le (by rw [HNW.out]; exact Nat.le_refl _))
                rw [TA.out]
                cases hmm : mem acc s with
                | true =>
                  have A8 : Hid (NW B2 Y (.slice au jn cu) (news [] (all.take (k + 1))) X) := Lib.hid (by rw [TS.out, adds, if_pos hmm, ← HNW.out]; exact HW.out)
                  clear hmm
                  go_wp2_with fail
                  go_roundw
                  case rel => exact ⟨k + 1, _, by omega, by go_num, rfl, A8⟩
                  case measure => simp [intOf]; omega
                | false =>
                  obtain ⟨v', w9, hrun, A7, _⟩ := HW.out.app1 s (H := X.heap.size) rfl LL.out
                  have A8 : Hid (NW B2 Y v' (news [] (all.take (k + 1))) w9) := Lib.hid (by rw [TS.out, adds, if_neg (by rw [hmm]; simp)]; exact A7)
                  rw [HNW.out] at hrun
                  clear A7 hmm
                  go_wp2_with fail
                  go_roundw
                  case rel => exact ⟨k + 1, _, by omega, by go_num, rfl, A8⟩
                  case measure => simp [intOf]; omega
          · obtain rfl : k = na := by omega
            have TA : Hid (all.take k = all) := Lib.hid (List.take_of_length_le (by rw [HNA.out]; exact Nat.le_refl _))
            rw [TA.out] at HW
            have BQX : Hid (Below Q1 W4 X) := Lib.hid (HAL.out.bel.trans (HW.out.bel.mono (by rw [← HB2.out]; exact HAL.out.sz)))
            have zX := (BQX.out.block Q (by omega)).trans Z4.out
            obtain ⟨q0, q1, q2, q3, q4⟩ := cells5 zX
            have CR := Lib.hid (ruleVars_calls pr a l c ag 0 b ps d Q X (by have := BQX.out.size; rw [S4.out] at this; omega) (HT.out.on (BQX.out.mono hQQ)) (ptrow_on HP.out (BQX.out.mono hQQ)) (by have := HLN.out; omega) HPN.out HNN.out)
            rw [HNL.out, HNP.out, ← LSZ.out] at CR
            clear zX
            go_wp2_with fail
            refine CR.out.mono ?_
            clear q0 q1 q2 q3 q4 CR
            rintro e w20 ⟨v20, rfl, ho20, hb20⟩
            have CS := Lib.hid (same_calls v20 u (news [] all) _ _ w20 ho20 (HW.out.own.below hb20) (by have := news_len all []; rw [HNA.out] at this; simp only [List.length_nil] at this; omega))
            have BF : Hid (Below M w w20) := Lib.hid ((B4.out.trans (BQX.out.mono (by rw [← HQ1.out]; omega))).trans (hb20.mono (by have := BQX.out.size; rw [S4.out] at this; omega)))
            have s20 : M ≤ w20.heap.size := by have := hb20.size; have := BQX.out.size; rw [S4.out] at this; omega
            clear ho20 hb20
            go_wp2_with fail
            refine CS.out.mono ?_
            clear CS
            rintro e w21 ⟨rfl, hb21⟩
            have BG : Hid (Below w.heap.size w w21) := Lib.hid (by rw [HM.out]; exact BF.out.trans (hb21.mono s20))
            clear hb21
            go_wp2_with fail
            go_ret
            exact ⟨rfl, BG.out⟩
end Go.Proofs.YtaglbeokecbihaaDoor
