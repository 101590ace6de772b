/- Contract of the page's Components. -/
import Derived.Test.YtfpocoaddmgakaaPcM
namespace Go.Proofs.Ytfpocoaddmgakaa
open Go.RowKit
set_option linter.unusedVariables false
set_option linter.unusedSimpArgs false

def OKB (b : Bool) (M : Nat → Nat → Bool) (D : Nat → Bool) (H : Nat → Nat) (i j : Nat) : Prop := b = true ↔ OKJ M D H i j
theorem below_grow {Mi n e size : Nat} {wi wr w5 : World} {v : Value} {xs : List Value} {o : Obj} (h : Below Mi wi wr) (hM : Mi ≤ wr.heap.size) (ho : wr.ownsRow Mi e size v n xs) (hg : (wr.alloc o).grownBy w5 v.ownBlock) : Below Mi wi w5 :=
  (h.alloc hM o).grown hg (by simp; omega) (fun k hk => (ho.lt k hk).1)

set_option maxRecDepth 100000 in
set_option maxHeartbeats 8000000 in
theorem page_calls {w : World} {ea : Option Addr} {ec : Nat} {K : List RV} (hE : RRow w ea K) (hdeg : ∀ i, i < K.length → (edgesOf K i).length ≤ 100000) (hn : K.length ≤ 1000) :
    Calls Try.prog 11 #[.slice ea K.length ec] w (CompRet w K.length (edgesOf K)) := by
  have cr := reach_calls (ec := ec) hE hdeg hn
  obtain ⟨n, hKn⟩ : ∃ n, K.length = n := ⟨_, rfl⟩
  obtain ⟨B, hB⟩ : ∃ B, w.heap.size = B := ⟨_, rfl⟩
  obtain ⟨E, hEE⟩ : ∃ E, edgesOf K = E := ⟨_, rfl⟩
  obtain ⟨m, H, hCN⟩ := cn_exists n E
  obtain ⟨i1, hi, hz0, hz1, hz2⟩ := info_parts info3
  have I := Lib.hid hi
  have Z0 := Lib.hid hz0
  have Z1 := Lib.hid hz1
  have Z2 := Lib.hid hz2
  obtain ⟨i2, hj, hy0, hy1, hy2⟩ := info_parts info4
  have J := Lib.hid hj
  have Y0 := Lib.hid hy0
  have Y1 := Lib.hid hy1
  have Y2 := Lib.hid hy2
  obtain ⟨i3, hk, hx0, hx1, hx2⟩ := info_parts info22
  have KK := Lib.hid hk
  have X0 := Lib.hid hx0
  have X1 := Lib.hid hx1
  have X2 := Lib.hid hx2
  rw [hKn, hB, hEE] at cr
  rw [hKn, hEE]
  rw [hKn] at hn
  have HBB := Lib.hid hB
  have HC := Lib.hid hCN
  clear hi hz0 hz1 hz2 hj hy0 hy1 hy2 hk hx0 hx1 hx2 hE hdeg hKn hEE hB hCN
  go_enter Try.func11, Try.ntmps11
  go_wp2_with (first | (go_at_call 17; refine cr.mono ?_; rintro e w1 ⟨M, rfl, h1, h2, h3⟩; have HR := Lib.hid h1; have HM := Lib.hid h2; have HB1 := Lib.hid h3; clear h1 h2 h3) | (refine wpList_make_row _ rfl _ _ 40 rfl 4 i2 (.bool false) Try.underlying40 J.out Y0.out Y1.out rfl .i64 .i64 n rfl rfl ?b3 ?b4 ?_))
  case b3 => rw [Y2.out]; omega
  case b4 => omega
  clear cr
  obtain ⟨db, hdb⟩ : ∃ db, w1.heap.size = db := ⟨_, rfl⟩
  have P0 := Lib.hid (CW.start (w1 := w1) (n := n))
  rw [hdb] at P0 ⊢
  have HDB := Lib.hid hdb
  clear hdb
  generalize World.alloc (World.alloc w1 _) _ = w2 at *
  have G0 : Hid (([] : List RV).map (·.2.1) = ([] : List Nat).map (cls n H) ∧ Greedy m (betwN n E H n) []) := Lib.hid ⟨rfl, Greedy.nil⟩
  have C0 : Hid (CW db w1 w2 n (dn H []) (.slice (some ⟨db + 1, 0, none⟩) 0 0) []) := Lib.hid (P0.out.congr (fun i _ => by simp [dn]))
  have ZZ := Lib.hid (cntS_nil n H)
  clear P0
  go_loopw [6, 7, 8, 9, 10, 11, 12, 14] (fun s6 s7 _ _ _ _ _ _ wr => ∃ (S : List Nat) (L : List RV), s7 = .int .i64 (cntS n H S : Int) ∧ Hid (CW db w1 wr n (dn H S) s6 L) ∧ Hid (L.map (·.2.1) = S.map (cls n H) ∧ Greedy m (betwN n E H n) S)) (fun _ s7 _ _ _ _ _ _ _ => n - (intOf s7).toNat)
  case atStart => exact ⟨[], [], by rw [ZZ.out]; rfl, C0, G0⟩
  case round =>
    clear C0 G0
    obtain ⟨S, L, rfl, HW, HG⟩ := hrel
    obtain ⟨oa, oc, hov, hrr0⟩ := HW.out.ul.rrow
    subst hov
    have HRR := Lib.hid hrr0
    obtain ⟨ct, hct⟩ : ∃ ct, cntS n H S = ct := ⟨_, rfl⟩
    have hcn : ct ≤ n := by rw [← hct]; exact cntS_le n H S
    have HCT := Lib.hid hct
    rw [hct]
    clear hct hrr0
    by_cases hlt : ct < n
    · have lt1 : (ct : Int) < (n : Int) := by omega
      have N0 : Hid (∀ i', i' < 0 → ¬ Ready m (betwN n E H n) S (H i')) := Lib.hid (fun i' h => by omega)
      clear HRR
      go_wp2_with fail
      go_loopw [6, 7, 8, 9, 10, 11, 12, 14] (fun s6 s7 s8 _ _ _ _ _ wv => ∃ i : Nat, i ≤ n ∧ s6 = .slice oa L.length oc ∧ s7 = .int .i64 (ct : Int) ∧ s8 = .int .i64 (i : Int) ∧ Hid (CW db w1 wv n (dn H S) (.slice oa L.length oc) L) ∧ Hid (∀ i', i' < i → ¬ Ready m (betwN n E H n) S (H i'))) (fun _ _ s8 _ _ _ _ _ _ => n - (intOf s8).toNat)
      case atStart => exact ⟨0, Nat.zero_le _, rfl, rfl, rfl, HW, N0⟩
      case round =>
        obtain ⟨i, hi, rfl, rfl, rfl, HV, HN⟩ := hrel
        clear HW N0
        by_cases hin : i < n
        · have i0 : (0 : Int) ≤ (i : Int) := by omega
          have in1 : (i : Int) < (n : Int) := by omega
          obtain ⟨d1, _⟩ := HV.out.at hin
          obtain ⟨bi, hbi⟩ : ∃ b, dn H S i = b := ⟨_, rfl⟩
          rw [hbi] at d1
          have OK0 : Hid (OKB (!bi) M (dn H S) H i 0) := Lib.hid (by
            unfold OKB OKJ; rw [hbi]; simp)
          obtain ⟨Mi, hMi⟩ : ∃ x, wr.heap.size = x := ⟨_, rfl⟩
          have HMi := Lib.hid hMi
          have OW0 : Hid ((wr.alloc (.cells #[] 3)).ownsRow Mi 3 1 (.slice (some ⟨Mi, 0, none⟩) 0 0) (cls 0 H (H i)).length (ints (cls 0 H (H i))) ∧ Below Mi wr (wr.alloc (.cells #[] 3))) := Lib.hid (by
            rw [← hMi]
            exact ⟨World.ownsRow_lit (base := wr.heap.size) (e := 3) (size := 1) wr #[] 0 (Nat.le_refl _) (by decide) rfl, (Below.refl _ _).alloc (Nat.le_refl _) _⟩)
          have HVR := Lib.hid (HR.out.below (by rw [HDB.out]; exact HV.out.be))
          obtain ⟨wi, hwi⟩ : ∃ x, x = wr := ⟨_, rfl⟩
          clear hbi
          go_wp2_with fail
          clear hMi d1
          rw [← hwi] at HV HMi OW0 HVR ⊢
          generalize World.alloc wi _ = wa at *
          clear hwi
          obtain ⟨c, hc⟩ : ∃ c, H i = c := ⟨_, rfl⟩
          have HCC := Lib.hid hc
          rw [hc] at OW0
          clear hc
          go_loopw [9, 10, 11, 12] (fun s9 s10 s11 _ wv => ∃ (j : Nat) (b : Bool), j ≤ n ∧ s9 = .bool b ∧ s11 = .int .i64 (j : Int) ∧ Hid (wv.ownsRow Mi 3 1 s10 (cls j H c).length (ints (cls j H c)) ∧ Below Mi wi wv) ∧ Hid (OKB b M (dn H S) H i j)) (fun _ _ s11 _ _ => n - (intOf s11).toNat)
          case atStart => exact ⟨0, _, Nat.zero_le _, rfl, rfl, OW0, OK0⟩
          case round =>
            obtain ⟨j, b, hj, rfl, rfl, HO, HOK⟩ := hrel
            clear OW0 OK0
            obtain ⟨ca, cc, hcv⟩ := row_form' HO.out.1
            subst hcv
            by_cases hjn : j < n
            · have j0 : (0 : Int) ≤ (j : Int) := by omega
              have j1 : (j : Int) < (n : Int) := by omega
              have CV := HV.out.below (by rw [HMi.out]; exact HO.out.2)
              have RV' := HVR.out.below (by rw [HMi.out]; exact HO.out.2)
              have oi := (RV'.outer hin).1
              have oj := (RV'.outer hjn).1
              rw [if_pos hin] at oi
              rw [if_pos hjn] at oj
              have mij := (RV'.at hin hjn).1
              have mji := (RV'.at hjn hin).1
              have dj := (CV.at hjn).1
              have hll := cls_len j H c
              have SB := Lib.hid (same_b HC.out HM.out hin hjn)
              have hMw : Mi ≤ wr.heap.size := by have := HO.out.2.size; rw [HMi.out] at this; exact this
              obtain ⟨D, hD⟩ : ∃ D, dn H S = D := ⟨_, rfl⟩
              have HDD := Lib.hid hD
              rw [hD] at dj HOK
              clear CV RV' hD
              by_cases hji : j = i
              · have q1 : ((j : Int) == (i : Int)) = true := by rw [beq_iff_eq]; omega
                cases b
                · have NB : Hid (OKB (false) M (dn H S) H i (j + 1)) := Lib.hid (by
                    unfold OKB; rw [HDD.out]
                    have h0 := okj_step (s := true) HOK.out (by
                      rw [SB.out]; simp [hji])
                    simpa [] using h0)
                  have CL : Hid (cls (j + 1) H c = cls j H c ++ [(j : Int)]) := Lib.hid (by
                    rw [cls_succ, if_pos (by rw [← HCC.out, SB.out]; simp [hji])])
                  clear HOK hji
                  go_wp2_with (first | (at_builtin; refine wpList_append_own_at _ rfl _ _ 22 rfl Mi 3 i1 (.int .i64 0) 1 8 Try.underlying22 I.out Z0.out Z1.out Z2.out rfl (by decide) _ _ _ rfl (HO.out.1.alloc _) ⟨wr.heap.size, 0, none⟩ 1 1 [.int .i64 (j : Int)] rfl rfl ?d1 ?d2 ?d3 ?d4 ?d5 ?_))
                  try (case d1 => exact cell_one_new wr _ _)
                  case d2 => first | rfl | (intro u hu; simp at hu; subst hu; rfl)
                  case d3 => unfold maxLen; omega
                  case d4 => omega
                  case d5 => first | omega | (simp; omega)
                  intro v' w5 hown' hgrow _ hat
                  have BE5 := Lib.hid (below_grow HO.out.2 hMw HO.out.1 hgrow)
                  have OW5 := Lib.hid hown'
                  obtain ⟨qa, qc, hqa⟩ := row_form' hown'
                  subst hqa
                  clear hown' hgrow hat HO oi oj mij mji dj
                  have NX : Hid (w5.ownsRow Mi 3 1 (.slice qa ((cls j H c).length + 1) qc) (cls (j + 1) H c).length (ints (cls (j + 1) H c)) ∧ Below Mi wi w5) := Lib.hid (by
                    rw [CL.out, List.length_append]
                    refine ⟨?_, BE5.out⟩
                    have := OW5.out
                    simpa [ints] using this)
                  go_wp2_with fail
                  go_roundw
                  case rel => exact ⟨j + 1, _, by omega, rfl, by go_num, NX, NB⟩
                  case measure => simp [intOf]; omega
                · have NB : Hid (OKB (true) M (dn H S) H i (j + 1)) := Lib.hid (by
                    unfold OKB; rw [HDD.out]
                    have h0 := okj_step (s := true) HOK.out (by
                      rw [SB.out]; simp [hji])
                    simpa [] using h0)
                  have CL : Hid (cls (j + 1) H c = cls j H c ++ [(j : Int)]) := Lib.hid (by
                    rw [cls_succ, if_pos (by rw [← HCC.out, SB.out]; simp [hji])])
                  clear HOK hji
                  go_wp2_with (first | (at_builtin; refine wpList_append_own_at _ rfl _ _ 22 rfl Mi 3 i1 (.int .i64 0) 1 8 Try.underlying22 I.out Z0.out Z1.out Z2.out rfl (by decide) _ _ _ rfl (HO.out.1.alloc _) ⟨wr.heap.size, 0, none⟩ 1 1 [.int .i64 (j : Int)] rfl rfl ?d1 ?d2 ?d3 ?d4 ?d5 ?_))
                  try (case d1 => exact cell_one_new wr _ _)
                  case d2 => first | rfl | (intro u hu; simp at hu; subst hu; rfl)
                  case d3 => unfold maxLen; omega
                  case d4 => omega
                  case d5 => first | omega | (simp; omega)
                  intro v' w5 hown' hgrow _ hat
                  have BE5 := Lib.hid (below_grow HO.out.2 hMw HO.out.1 hgrow)
                  have OW5 := Lib.hid hown'
                  obtain ⟨qa, qc, hqa⟩ := row_form' hown'
                  subst hqa
                  clear hown' hgrow hat HO oi oj mij mji dj
                  have NX : Hid (w5.ownsRow Mi 3 1 (.slice qa ((cls j H c).length + 1) qc) (cls (j + 1) H c).length (ints (cls (j + 1) H c)) ∧ Below Mi wi w5) := Lib.hid (by
                    rw [CL.out, List.length_append]
                    refine ⟨?_, BE5.out⟩
                    have := OW5.out
                    simpa [ints] using this)
                  go_wp2_with fail
                  go_roundw
                  case rel => exact ⟨j + 1, _, by omega, rfl, by go_num, NX, NB⟩
                  case measure => simp [intOf]; omega
              · have q1 : ((j : Int) == (i : Int)) = false := by rw [beq_eq_false_iff_ne]; omega
                cases e1 : M i j
                · rw [e1] at mij
                  cases b
                  · have NB : Hid (OKB (false) M (dn H S) H i (j + 1)) := Lib.hid (by
                      unfold OKB; rw [HDD.out]
                      have h0 := okj_step (s := false) HOK.out (by
                        rw [SB.out]; simp [hji, e1])
                      simpa [e1] using h0)
                    have CL : Hid (cls (j + 1) H c = cls j H c) := Lib.hid (by
                      rw [cls_succ, if_neg (by rw [← HCC.out, SB.out]; simp [hji, e1])])
                    clear e1
                    clear HOK hji
                    have NX : Hid (wr.ownsRow Mi 3 1 (.slice ca (cls j H c).length cc) (cls (j + 1) H c).length (ints (cls (j + 1) H c)) ∧ Below Mi wi wr) := Lib.hid (by
                      rw [CL.out]; exact HO.out)
                    clear HO
                    go_wp2_with fail
                    go_roundw
                    case rel => exact ⟨j + 1, _, by omega, rfl, by go_num, NX, NB⟩
                    case measure => simp [intOf]; omega
                  · have NB : Hid (OKB (true) M (dn H S) H i (j + 1)) := Lib.hid (by
                      unfold OKB; rw [HDD.out]
                      have h0 := okj_step (s := false) HOK.out (by
                        rw [SB.out]; simp [hji, e1])
                      simpa [e1] using h0)
                    have CL : Hid (cls (j + 1) H c = cls j H c) := Lib.hid (by
                      rw [cls_succ, if_neg (by rw [← HCC.out, SB.out]; simp [hji, e1])])
                    clear e1
                    clear HOK hji
                    have NX : Hid (wr.ownsRow Mi 3 1 (.slice ca (cls j H c).length cc) (cls (j + 1) H c).length (ints (cls (j + 1) H c)) ∧ Below Mi wi wr) := Lib.hid (by
                      rw [CL.out]; exact HO.out)
                    clear HO
                    go_wp2_with fail
                    go_roundw
                    case rel => exact ⟨j + 1, _, by omega, rfl, by go_num, NX, NB⟩
                    case measure => simp [intOf]; omega
                · rw [e1] at mij
                  cases e2 : M j i
                  · rw [e2] at mji
                    cases b
                    · have NB : Hid (OKB (false) M (dn H S) H i (j + 1)) := Lib.hid (by
                        unfold OKB; rw [HDD.out]
                        have h0 := okj_step (s := false) HOK.out (by
                          rw [SB.out]; simp [hji, e1, e2])
                        simpa [e1] using h0)
                      have CL : Hid (cls (j + 1) H c = cls j H c) := Lib.hid (by
                        rw [cls_succ, if_neg (by rw [← HCC.out, SB.out]; simp [hji, e1, e2])])
                      clear e1 e2
                      clear HOK hji
                      have NX : Hid (wr.ownsRow Mi 3 1 (.slice ca (cls j H c).length cc) (cls (j + 1) H c).length (ints (cls (j + 1) H c)) ∧ Below Mi wi wr) := Lib.hid (by
                        rw [CL.out]; exact HO.out)
                      clear HO
                      go_wp2_with fail
                      go_roundw
                      case rel => exact ⟨j + 1, _, by omega, rfl, by go_num, NX, NB⟩
                      case measure => simp [intOf]; omega
                    · have NB : Hid (OKB (D j) M (dn H S) H i (j + 1)) := Lib.hid (by
                        unfold OKB; rw [HDD.out]
                        have h0 := okj_step (s := false) HOK.out (by
                          rw [SB.out]; simp [hji, e1, e2])
                        simpa [e1] using h0)
                      have CL : Hid (cls (j + 1) H c = cls j H c) := Lib.hid (by
                        rw [cls_succ, if_neg (by rw [← HCC.out, SB.out]; simp [hji, e1, e2])])
                      clear e1 e2
                      clear HOK hji
                      have NX : Hid (wr.ownsRow Mi 3 1 (.slice ca (cls j H c).length cc) (cls (j + 1) H c).length (ints (cls (j + 1) H c)) ∧ Below Mi wi wr) := Lib.hid (by
                        rw [CL.out]; exact HO.out)
                      clear HO
                      go_wp2_with fail
                      go_roundw
                      case rel => exact ⟨j + 1, _, by omega, rfl, by go_num, NX, NB⟩
                      case measure => simp [intOf]; omega
                  · rw [e2] at mji
                    cases b
                    · have NB : Hid (OKB (false) M (dn H S) H i (j + 1)) := Lib.hid (by
                        unfold OKB; rw [HDD.out]
                        have h0 := okj_step (s := true) HOK.out (by
                          rw [SB.out]; simp [hji, e1, e2])
                        simpa [e1] using h0)
                      have CL : Hid (cls (j + 1) H c = cls j H c ++ [(j : Int)]) := Lib.hid (by
                        rw [cls_succ, if_pos (by rw [← HCC.out, SB.out]; simp [hji, e1, e2])])
                      clear e1 e2
                      clear HOK hji
                      go_wp2_with (first | (at_builtin; refine wpList_append_own_at _ rfl _ _ 22 rfl Mi 3 i1 (.int .i64 0) 1 8 Try.underlying22 I.out Z0.out Z1.out Z2.out rfl (by decide) _ _ _ rfl (HO.out.1.alloc _) ⟨wr.heap.size, 0, none⟩ 1 1 [.int .i64 (j : Int)] rfl rfl ?d1 ?d2 ?d3 ?d4 ?d5 ?_))
                      try (case d1 => exact cell_one_new wr _ _)
                      case d2 => first | rfl | (intro u hu; simp at hu; subst hu; rfl)
                      case d3 => unfold maxLen; omega
                      case d4 => omega
                      case d5 => first | omega | (simp; omega)
                      intro v' w5 hown' hgrow _ hat
                      have BE5 := Lib.hid (below_grow HO.out.2 hMw HO.out.1 hgrow)
                      have OW5 := Lib.hid hown'
                      obtain ⟨qa, qc, hqa⟩ := row_form' hown'
                      subst hqa
                      clear hown' hgrow hat HO oi oj mij mji dj
                      have NX : Hid (w5.ownsRow Mi 3 1 (.slice qa ((cls j H c).length + 1) qc) (cls (j + 1) H c).length (ints (cls (j + 1) H c)) ∧ Below Mi wi w5) := Lib.hid (by
                        rw [CL.out, List.length_append]
                        refine ⟨?_, BE5.out⟩
                        have := OW5.out
                        simpa [ints] using this)
                      go_wp2_with fail
                      go_roundw
                      case rel => exact ⟨j + 1, _, by omega, rfl, by go_num, NX, NB⟩
                      case measure => simp [intOf]; omega
                    · have NB : Hid (OKB (true) M (dn H S) H i (j + 1)) := Lib.hid (by
                        unfold OKB; rw [HDD.out]
                        have h0 := okj_step (s := true) HOK.out (by
                          rw [SB.out]; simp [hji, e1, e2])
                        simpa [e1] using h0)
                      have CL : Hid (cls (j + 1) H c = cls j H c ++ [(j : Int)]) := Lib.hid (by
                        rw [cls_succ, if_pos (by rw [← HCC.out, SB.out]; simp [hji, e1, e2])])
                      clear e1 e2
                      clear HOK hji
                      go_wp2_with (first | (at_builtin; refine wpList_append_own_at _ rfl _ _ 22 rfl Mi 3 i1 (.int .i64 0) 1 8 Try.underlying22 I.out Z0.out Z1.out Z2.out rfl (by decide) _ _ _ rfl (HO.out.1.alloc _) ⟨wr.heap.size, 0, none⟩ 1 1 [.int .i64 (j : Int)] rfl rfl ?d1 ?d2 ?d3 ?d4 ?d5 ?_))
                      try (case d1 => exact cell_one_new wr _ _)
                      case d2 => first | rfl | (intro u hu; simp at hu; subst hu; rfl)
                      case d3 => unfold maxLen; omega
                      case d4 => omega
                      case d5 => first | omega | (simp; omega)
                      intro v' w5 hown' hgrow _ hat
                      have BE5 := Lib.hid (below_grow HO.out.2 hMw HO.out.1 hgrow)
                      have OW5 := Lib.hid hown'
                      obtain ⟨qa, qc, hqa⟩ := row_form' hown'
                      subst hqa
                      clear hown' hgrow hat HO oi oj mij mji dj
                      have NX : Hid (w5.ownsRow Mi 3 1 (.slice qa ((cls j H c).length + 1) qc) (cls (j + 1) H c).length (ints (cls (j + 1) H c)) ∧ Below Mi wi w5) := Lib.hid (by
                        rw [CL.out, List.length_append]
                        refine ⟨?_, BE5.out⟩
                        have := OW5.out
                        simpa [ints] using this)
                      go_wp2_with fail
                      go_roundw
                      case rel => exact ⟨j + 1, _, by omega, rfl, by go_num, NX, NB⟩
                      case measure => simp [intOf]; omega
            · obtain rfl : j = n := by omega
              have CV := HV.out.below (by rw [HMi.out]; exact HO.out.2)
              have RD := okj_ready HC.out HG.out.2 HM.out hin
              have hdbM : db < Mi := by rw [← HMi.out]; exact HV.out.lt
              have hob : ∀ x, (Value.slice oa L.length oc).ownBlock = some x → x < Mi := fun x hx => by rw [← HMi.out]; exact (HV.out.ul.own.lt x hx).2
              have HOB := Lib.hid hob
              clear hob
              cases b
              · have HV2 := Lib.hid CV
                have HN2 : Hid (∀ i', i' < i + 1 → ¬ Ready m (betwN j E H j) S (H i')) := Lib.hid (fun i' h => by
                  by_cases e : i' = i
                  · subst e
                    intro hr
                    have := HOK.out.2 (RD.2 hr)
                    cases this
                  · exact HN.out i' (by omega))
                clear CV RD HO HOK HV HN
                go_wp2_with fail
                go_roundw
                case rel => exact ⟨i + 1, by omega, rfl, rfl, by go_num, HV2, HN2⟩
                case measure => simp [intOf]; omega
              · have hr := RD.1 (HOK.out.1 rfl)
                have LS := Lib.hid (least_next HC.out hin hr HN.out)
                have CA := Lib.hid (cntS_add (n := j) (H := H) hr.2.1)
                have HRD := Lib.hid hr
                rw [HCC.out] at LS CA HRD
                have hll := cls_len j H c
                have hl1 : 1 ≤ (cls j H c).length := List.length_pos_of_mem (mem_cls.2 ⟨i, hin, HCC.out, rfl⟩)
                have Q0 : Hid (CW db w1 wr j (fun x : Nat => dn H S x || decide ((x : Int) ∈ (cls j H c).take 0)) (.slice oa L.length oc) L ∧ wr.ownsRow Mi 3 1 (.slice ca (cls j H c).length cc) (cls j H c).length (ints (cls j H c))) := Lib.hid ⟨CV.congr (fun x _ => by simp), HO.out.1⟩
                clear CV RD hr HO HOK HV HN HVR
                go_wp2_with fail
                go_loopw [91, 14] (fun s91 _ wv => ∃ k : Nat, k ≤ (cls j H c).length ∧ s91 = .int .i64 (k : Int) ∧ Hid (CW db w1 wv j (fun x : Nat => dn H S x || decide ((x : Int) ∈ (cls j H c).take k)) (.slice oa L.length oc) L ∧ wv.ownsRow Mi 3 1 (.slice ca (cls j H c).length cc) (cls j H c).length (ints (cls j H c)))) (fun s91 _ _ => (cls j H c).length - (intOf s91).toNat)
                case atStart => exact ⟨0, Nat.zero_le _, rfl, Q0⟩
                case round =>
                  obtain ⟨k, hk, rfl, HQ⟩ := hrel
                  clear Q0
                  by_cases hkl : k < (cls j H c).length
                  · have k0 : (0 : Int) ≤ (k : Int) := by omega
                    have k1 : (k : Int) < ((cls j H c).length : Int) := by omega
                    obtain ⟨ra, rc, hra, hrow⟩ := row_of_owns HQ.out.2
                    obtain ⟨rfl, rfl⟩ : ca = ra ∧ cc = rc := by simpa using hra
                    obtain ⟨xb, xo, rfl, hxb, hxc⟩ := hrow.at hkl
                    obtain ⟨v, hv, hHv, hvx⟩ := mem_cls.1 (List.getElem_mem hkl)
                    have hvk : (cls j H c)[k]? = some (v : Int) := by rw [List.getElem?_eq_getElem hkl, hvx]
                    rw [hvk] at hxc
                    have hxc : wr.cell? ⟨xb, xo + k, none⟩ = some (.int .i64 (v : Int)) := hxc
                    have v0 : (0 : Int) ≤ (v : Int) := by omega
                    have v1 : (v : Int) < (j : Int) := by omega
                    obtain ⟨dv, fv⟩ := HQ.out.1.at hv
                    have MK := HQ.out.1.mark v
                    have NX : Hid (CW db w1 (wr.setCell ⟨db, v, none⟩ (.bool true)) j (fun x : Nat => dn H S x || decide ((x : Int) ∈ (cls j H c).take (k + 1))) (.slice oa L.length oc) L ∧ (wr.setCell ⟨db, v, none⟩ (.bool true)).ownsRow Mi 3 1 (.slice (some ⟨xb, xo, none⟩) (cls j H c).length cc) (cls j H c).length (ints (cls j H c))) := Lib.hid ⟨by rw [← mark_step hvk]; exact MK, owns_keeps HQ.out.2 ((Keeps.refl (fun b => b = db) wr).setCell (p := ⟨db, v, none⟩) rfl _) (fun b hb e => by have := (HQ.out.2.lt b hb).1; omega)⟩
                    clear MK HQ hrow hra hvx hvk hHv
                    go_wp2_with fail
                    go_roundw
                    case rel => exact ⟨k + 1, by omega, by go_num, NX⟩
                    case measure => simp [intOf]; omega
                  · obtain rfl : k = (cls j H c).length := by omega
                    have CX := Lib.hid (HQ.out.1.congr (fun x hx => mark_all (H := H) (S := S) (c := c) hx))
                    obtain ⟨ra, rc, hra, hrow⟩ := row_of_owns HQ.out.2
                    obtain ⟨rfl, rfl⟩ : ca = ra ∧ cc = rc := by simpa using hra
                    have hcap : (cls j H c).length ≤ cc := by
                      rcases HQ.out.2.2 with ⟨e, h0⟩ | ⟨r, cap2, cur, e1, _, _, h1, _⟩
                      · injection e with e1 e2 e3; omega
                      · injection e1 with _ e2 e3; omega
                    have hfar : ∀ p, ca = some p → db < p.block ∧ p.block < wr.heap.size ∧ (Value.slice oa L.length oc).ownBlock ≠ some p.block := fun p hp => by
                      subst hp
                      have := HQ.out.2.lt p.block rfl
                      exact ⟨by omega, this.2, fun e => by have := HOB.out _ e; omega⟩
                    have HROW := Lib.hid hrow
                    have HFAR := Lib.hid hfar
                    have hdl := CX.out.lt
                    have hLl : L.length ≤ j := by
                      have e1 := congrArg List.length HG.out.1
                      simp only [List.length_map] at e1
                      rw [e1]
                      exact Nat.le_trans (nd_len m S HG.out.2.ok.2.1 HG.out.2.ok.1) HC.out.le
                    clear HQ hrow hra hfar
                    go_wp2_with (first | (at_builtin; refine wpList_append_own_at _ rfl _ _ 24 rfl (db + 1) 22 i3 (.slice none 0 0) 1 24 Try.underlying24 KK.out X0.out X1.out X2.out rfl (by decide) _ _ _ rfl (CX.out.ul.own.alloc _) ⟨wr.heap.size, 0, none⟩ 1 1 [.slice ca (cls j H c).length cc] rfl rfl ?d1 ?d2 ?d3 ?d4 ?d5 ?_))
                    case d1 => exact cell_one_new wr _ _
                    case d2 => intro u hu; simp at hu; subst hu; rfl
                    case d3 => unfold maxLen; omega
                    case d4 => omega
                    case d5 => simp; omega
                    intro v' w5 hown' hgrow _ hat
                    have CP := Lib.hid (CX.out.push (x := (ca, cls j H c, cc)) HROW.out hcap HFAR.out hown' hgrow (by simpa using hat))
                    obtain ⟨qa, qc, hqa⟩ := row_form' hown'
                    subst hqa
                    clear hown' hgrow hat CX
                    go_wp2_with fail
                    have NG : Hid ((L ++ [(ca, cls j H c, cc)]).map (·.2.1) = (S ++ [c]).map (cls j H) ∧ Greedy m (betwN j E H j) (S ++ [c])) := Lib.hid ⟨by rw [List.map_append, List.map_append, HG.out.1]; rfl, Greedy.snoc HG.out.2 HRD.out LS.out⟩
                    go_roundw
                    case rel => exact ⟨S ++ [c], _, by rw [CA.out, HCT.out, Int.natCast_add], CP, NG⟩
                    case measure => simp [intOf]; omega
        · exact absurd (some_next HC.out (by rw [HCT.out]; exact hlt) (fun i' h => HN.out i' (by omega))) id
    · have hLE := congrArg List.length HG.out.1
      have RET : Hid (CompRet w n E (.returned (.slice oa L.length oc)) wr) := Lib.hid (by
        obtain ⟨a9, c9, e9, hr⟩ := HW.out.ul.rrow
        obtain ⟨rfl, rfl⟩ : oa = a9 ∧ oc = c9 := by simpa using e9
        refine ⟨oa, oc, L, rfl, hr, ⟨m, H, S, HC.out, HG.out.2, none_next HC.out (by rw [HCT.out]; omega), HG.out.1⟩, ?_⟩
        rw [HBB.out]
        exact HB1.out.trans (HW.out.be.mono (by have h1 := HB1.out.size; have h2 := HBB.out; have h3 := HDB.out; omega))
        )
      clear HW HRR hLE
      go_wp2_with fail
      go_ret
      exact RET.out
end Go.Proofs.Ytfpocoaddmgakaa
