/- R.Rule, walked: an aggregate over a variable. Written by mkszt.py. -/
import Derived.Test.YtaglbeokecbihaaDoorSzS
import Derived.Test.YtaglbeokecbihaaDoorSzG
namespace Go.Proofs.YtaglbeokecbihaaDoor
open Go.RowKit
set_option linter.unusedVariables false
set_option linter.unusedSimpArgs false

attribute [local go_sem ↓] app_rule
theorem TmFr.at' {L N : Nat} {w : World} {a : Option Addr} {l : List Tm} (h : TmFr L N w a l) {i : Nat} (hi : i < l.length) : ∃ g, a = some ⟨g, 0, none⟩ ∧ L ≤ g ∧ g < N ∧ w.cell? ⟨g, i * 3, none⟩ = some (.int .i64 (tmAt l i).kind) ∧ w.cell? ⟨g, i * 3 + 1, none⟩ = some (.string (tmAt l i).text) ∧ w.cell? ⟨g, i * 3 + 2, none⟩ = some (.int .i64 (tmAt l i).n) := by
  rcases h.2 with h0 | ⟨g, ha, hl, hg, hc⟩
  · subst h0; simp at hi
  · exact ⟨g, ha, hl, hg, hc i hi⟩
set_option maxRecDepth 100000 in
set_option maxHeartbeats 4000000 in
theorem rule_same (hd : Int) (a0 : Option Addr) (TA : List TV) (c0 : Nat) (agg : Int) (b0 : Option Addr) (R : List PT) (d0 : Nat) (B : Nat) (w : World) (hB : B ≤ w.heap.size) (hT : TIn B w a0 TA) (hl : TA.length ≤ 6) (hR : PIn B w b0 R) (hRl : R.length ≤ 8) (hf : ∀ p ∈ R, fewP p) (hk : 1 ≤ bits .and .i64 agg 15 ∧ bits .and .i64 agg 15 ≤ 4) (hlast : (tmAt (atomL TA) ((atomL TA).length - 1)).kind = 0) : Calls Tryd.prog 23 #[.agg #[.int .i64 hd, .slice a0 TA.length c0, .int .i64 agg, .slice b0 R.length d0]] w (RuleRet w (predS (uN hd % 6)) (atomL TA) (bits .and .i64 agg 15) (R.map ptT)) := by
  obtain ⟨M, hM⟩ : ∃ M, w.heap.size = M := ⟨_, rfl⟩
  have HM := Lib.hid hM
  obtain ⟨z1, z2⟩ := rbox71 w #[.int .i64 hd, .slice a0 TA.length c0, .int .i64 agg, .slice b0 R.length d0] #[.string ⟨#[]⟩, .slice none 0 0, .int .i64 0, .slice none 0 0, .int .i64 0] 67 71
  rw [hM] at z1 z2
  have Y0 := Lib.hid z1
  have Z0 := Lib.hid z2
  have B0 : Hid (Below M w ((w.alloc (.cells #[.int .i64 hd, .slice a0 TA.length c0, .int .i64 agg, .slice b0 R.length d0] 67)).alloc (.cells #[.string ⟨#[]⟩, .slice none 0 0, .int .i64 0, .slice none 0 0, .int .i64 0] 71))) := Lib.hid (by rw [← hM]; exact below2 w _ _)
  have S0 : Hid (((w.alloc (.cells #[.int .i64 hd, .slice a0 TA.length c0, .int .i64 agg, .slice b0 R.length d0] 67)).alloc (.cells #[.string ⟨#[]⟩, .slice none 0 0, .int .i64 0, .slice none 0 0, .int .i64 0] 71)).heap.size = M + 2) := Lib.hid (by simp [hM])
  have CA := Lib.hid (atomOf2_calls hd a0 TA c0 B ((w.alloc (.cells #[.int .i64 hd, .slice a0 TA.length c0, .int .i64 agg, .slice b0 R.length d0] 67)).alloc (.cells #[.string ⟨#[]⟩, .slice none 0 0, .int .i64 0, .slice none 0 0, .int .i64 0] 71)) (by rw [S0.out]; omega) (hT.on (B0.out.mono (by omega))) (by omega))
  have HR := Lib.hid hR
  have HF := Lib.hid hf
  have hBM : B ≤ M := by omega
  have HMS : Hid (w.heap.size = M ∧ B ≤ M) := Lib.hid ⟨hM, hBM⟩
  obtain ⟨pr, hpr⟩ : ∃ pr, predS (uN hd % 6) = pr := ⟨_, rfl⟩
  obtain ⟨l, hll⟩ : ∃ l, atomL TA = l := ⟨_, rfl⟩
  have HLN : Hid (1 ≤ l.length ∧ l.length ≤ 6) := Lib.hid (by rw [← hll]; unfold atomL; split <;> simp <;> first | omega | (constructor <;> first | omega | (rename_i h; exact List.length_pos_iff.2 h)))
  obtain ⟨N, hN⟩ : ∃ N, R.length = N := ⟨_, rfl⟩
  have HN := Lib.hid hN
  obtain ⟨nt, hnt⟩ : ∃ nt, TA.length = nt := ⟨_, rfl⟩
  rw [hpr, hll] at CA
  rw [hN, hnt] at Y0 Z0 B0 S0 CA
  rw [hpr, hll, hN, hnt]
  rw [hN] at hRl
  try (rw [hll] at hlast)
  clear hM z1 z2 hT hR hf hpr hll hN hnt hB hl
  have MX := HM.out
  obtain ⟨ag, hag⟩ : ∃ ag : Int, bits .and .i64 agg 15 = ag := ⟨_, rfl⟩
  rw [hag] at hk ⊢
  obtain ⟨hk1, hk4⟩ := hk
  go_enter Tryd.func23, Tryd.ntmps23
  go_wp2_with fail
  refine CA.out.mono ?_
  generalize World.alloc (World.alloc w _) _ = W0 at *
  rintro e w1 ⟨a, c, rfl, hfr, hb1, hfz, hcp⟩
  have b1 : Below M w w1 := B0.out.trans (hb1.mono (by rw [S0.out]; omega))
  have y1 := (hb1.block M (by rw [S0.out]; omega)).trans Y0.out
  have z1 := (hb1.block (M + 1) (by rw [S0.out]; omega)).trans Z0.out
  have s1 : M + 2 ≤ w1.heap.size := by have := hb1.size; rw [S0.out] at this; exact this
  rw [S0.out] at hfr
  obtain ⟨P, hP⟩ : ∃ P, w1.heap.size = P := ⟨_, rfl⟩
  have HP := Lib.hid hP
  rw [hP] at hfr
  obtain ⟨n, hn⟩ : ∃ n, l.length = n + 1 := ⟨l.length - 1, by have := HLN.out; omega⟩
  obtain ⟨g, ha, hgl, hgP, f0, f1, f2⟩ := hfr.at' (i := n) (by omega)
  subst ha
  have HFZ := Lib.hid (hfz g rfl)
  have HCAP : Hid (ag ≠ 0 → l.length ≤ c) := Lib.hid (fun _ => hcp)
  clear hfz hcp
  have LTM : Hid (tmAt l (l.length - 1) = tmAt l n) := Lib.hid (by rw [hn]; rfl)
  rw [LTM.out] at hlast
  have bA := (Below.refl w1.heap.size w1).alloc (Nat.le_refl _) (.cells #[.string pr, .slice (some ⟨g, 0, none⟩) l.length c, .int .i64 0, .slice none 0 0, .int .i64 0] 71)
  have y2 := (bA.block M (by omega)).trans y1
  have hA0 : (w1.alloc (.cells #[.string pr, .slice (some ⟨g, 0, none⟩) l.length c, .int .i64 ag, .slice none 0 0, .int .i64 0] 71)).heap[P]? = some (.cells #[.string pr, .slice (some ⟨g, 0, none⟩) l.length c, .int .i64 ag, .slice none 0 0, .int .i64 0] 71 (0, 0)) := by rw [← hP]; exact box16 w1 _ _
  have bA2 := (Below.refl w1.heap.size w1).alloc (Nat.le_refl _) (.cells #[.string pr, .slice (some ⟨g, 0, none⟩) l.length c, .int .i64 ag, .slice none 0 0, .int .i64 0] 71)
  have A1 : Hid (RW M P w pr (some ⟨g, 0, none⟩) l c ag (.slice none 0 0) ((R.map ptT).take 0) (w1.alloc (.cells #[.string pr, .slice (some ⟨g, 0, none⟩) l.length c, .int .i64 ag, .slice none 0 0, .int .i64 0] 71))) := Lib.hid ⟨b1.alloc (by omega) _, (bA2.block _ (by omega)).trans z1, hA0, hfr.on (fun k _ h2 => bA2.block k (by omega)), prow_nil _ _, by simp [hP], by omega⟩
  have p2 := cellAt (i := 2) y2 rfl
  have y3 := (bA2.block M (by omega)).trans y1
  have p3 := cellAt (i := 3) y3 rfl
  obtain ⟨c0', c1', c2', c3', c4'⟩ := cells5 hA0
  have fA : ∀ i, (w1.alloc (.cells #[.string pr, .slice (some ⟨g, 0, none⟩) l.length c, .int .i64 0, .slice none 0 0, .int .i64 0] 71)).frozen? ⟨P, i, none⟩ = false := fz_of (by rw [← hP]; exact box16 w1 _ _)
  obtain ⟨c0, c1, c2, c3, c4⟩ := cells5 (show (w1.alloc (.cells #[.string pr, .slice (some ⟨g, 0, none⟩) l.length c, .int .i64 0, .slice none 0 0, .int .i64 0] 71)).heap[P]? = some (.cells #[.string pr, .slice (some ⟨g, 0, none⟩) l.length c, .int .i64 0, .slice none 0 0, .int .i64 0] 71 (0, 0)) by rw [← hP]; exact box16 w1 _ _)
  have k0 := (bA2.cell (p := ⟨g, n * 3, none⟩) (by show g < _; omega)).trans f0
  generalize tmAt l n = t at *
  obtain ⟨tk, tt, tn⟩ := t
  simp only at hlast k0
  subst hlast
  have g1 : decide ((1 : Int) ≤ ag) = true := decide_eq_true hk1
  have g2 : decide (ag ≤ (4 : Int)) = true := decide_eq_true hk4
  have tq : (l.length : Int) - 1 = (n : Int) := by omega
  have i2 : (n : Int) < (l.length : Int) := by omega
  have i3 : (0 : Int) ≤ (n : Int) := by omega
  have wn : wrap64 (n : Int) = (n : Int) := by have := HLN.out; unfold wrap64; omega
  clear hb1 b1 y1 z1 hP y2 y3 CA hfr bA bA2 hA0 f0 f1 f2 hn
  have PX := HP.out
  go_wp2_with fail
  clear wn tq

  go_loopw [45] (fun i wr => ∃ (k : Nat) (v : Value), k ≤ N ∧ i = .int .i64 k ∧ Hid (RW M P w pr (some ⟨g, 0, none⟩) l c ag v ((R.map ptT).take k) wr)) (fun i _ => N - (intOf i).toNat)
  case atStart => exact ⟨0, _, Nat.zero_le _, rfl, A1⟩
  case round =>
    obtain ⟨k, v, hk, rfl, HA⟩ := hrel
    by_cases hlt : k < N
    · have hlR : k < R.length := by rw [HN.out]; exact hlt
      obtain ⟨bb, off, cs, hadr, _, hpc, hcell⟩ := (HR.out.on (HA.out.bel.mono hBM)).at hlR
      have hfp := HF.out _ (paAt_mem hlR)
      have TS : Hid ((R.map ptT).take (k + 1) = (R.map ptT).take k ++ [ptT (paAt R k)]) := Lib.hid (by
        rw [List.take_succ_eq_append_getElem (by simpa using hlR)]
        simp [paAt, hlR])
      have LL : Hid (((R.map ptT).take k).length ≤ 1000) := Lib.hid (by rw [List.length_take]; omega)
      have hpc0 := hpc
      obtain ⟨pa, pc, e1, e2, e3, e4, e5, e6, e7, rfl, _⟩ := hpc0
      have CP : Hid (∀ W, Below wr.heap.size wr W → Calls Tryd.prog 17 #[.agg #[.int .i64 (paAt R k).f, .int .i64 (paAt R k).o, .int .i64 (paAt R k).pn, .slice pa (paAt R k).T.length pc, .int .i64 (paAt R k).x1, .int .i64 (paAt R k).x2, .int .i64 (paAt R k).x3, .int .i64 (paAt R k).y1, .int .i64 (paAt R k).y2, .int .i64 (paAt R k).y3, .int .i64 e1, .int .i64 e2, .int .i64 e3, .int .i64 e4, .slice e5 e6 e7]] W (PartK W (ptT (paAt R k)))) := Lib.hid (fun W hW => partOf_k (hpc.on (hW.mono (by have := HA.out.bel.size; have := HMS.out; omega))) (by have := HA.out.bel.size; have := hW.size; have := HMS.out; omega) hfp)
      have fc : wr.cell? ⟨bb, off + k * 15, none⟩ = some (.int .i64 (paAt R k).f) ∧ wr.cell? ⟨bb, off + k * 15 + 1, none⟩ = some (.int .i64 (paAt R k).o) ∧ wr.cell? ⟨bb, off + k * 15 + 2, none⟩ = some (.int .i64 (paAt R k).pn) ∧ wr.cell? ⟨bb, off + k * 15 + 3, none⟩ = some (.slice pa (paAt R k).T.length pc) ∧ wr.cell? ⟨bb, off + k * 15 + 4, none⟩ = some (.int .i64 (paAt R k).x1) ∧ wr.cell? ⟨bb, off + k * 15 + 5, none⟩ = some (.int .i64 (paAt R k).x2) ∧ wr.cell? ⟨bb, off + k * 15 + 6, none⟩ = some (.int .i64 (paAt R k).x3) ∧ wr.cell? ⟨bb, off + k * 15 + 7, none⟩ = some (.int .i64 (paAt R k).y1) ∧ wr.cell? ⟨bb, off + k * 15 + 8, none⟩ = some (.int .i64 (paAt R k).y2) ∧ wr.cell? ⟨bb, off + k * 15 + 9, none⟩ = some (.int .i64 (paAt R k).y3) ∧ wr.cell? ⟨bb, off + k * 15 + 10, none⟩ = some (.int .i64 e1) ∧ wr.cell? ⟨bb, off + k * 15 + 11, none⟩ = some (.int .i64 e2) ∧ wr.cell? ⟨bb, off + k * 15 + 12, none⟩ = some (.int .i64 e3) ∧ wr.cell? ⟨bb, off + k * 15 + 13, none⟩ = some (.int .i64 e4) ∧ wr.cell? ⟨bb, off + k * 15 + 14, none⟩ = some (.slice e5 e6 e7) := ⟨hcell 0 _ rfl, hcell 1 _ rfl, hcell 2 _ rfl, hcell 3 _ rfl, hcell 4 _ rfl, hcell 5 _ rfl, hcell 6 _ rfl, hcell 7 _ rfl, hcell 8 _ rfl, hcell 9 _ rfl, hcell 10 _ rfl, hcell 11 _ rfl, hcell 12 _ rfl, hcell 13 _ rfl, hcell 14 _ rfl⟩
      generalize (R.map ptT).take k = acc at *
      generalize ptT (paAt R k) = t at *
      generalize paAt R k = p at *
      obtain ⟨z0, z1, z2, zT, z4, z5, z6, z7, z8, z9, ze⟩ := p
      simp only at fc CP
      obtain ⟨np, hnp⟩ : ∃ np, zT.length = np := ⟨_, rfl⟩
      rw [hnp] at fc CP
      obtain ⟨f0, f1, f2, f3, f4, f5, f6, f7, f8, f9, f10, f11, f12, f13, f14⟩ := fc
      subst hadr
      clear hpc hcell hfp hnp
      obtain ⟨m, hm⟩ : ∃ m, wr.heap.size = m := ⟨_, rfl⟩
      have A3 := Lib.hid (HA.out.below ((Below.refl _ _).alloc (Nat.le_refl _) (.cells #[.int .i64 z0, .int .i64 z1, .int .i64 z2, .slice pa np pc, .int .i64 z4, .int .i64 z5, .int .i64 z6, .int .i64 z7, .int .i64 z8, .int .i64 z9, .int .i64 e1, .int .i64 e2, .int .i64 e3, .int .i64 e4, .slice e5 e6 e7] 40)))
      have Y3 := Lib.hid (box16 wr #[.int .i64 z0, .int .i64 z1, .int .i64 z2, .slice pa np pc, .int .i64 z4, .int .i64 z5, .int .i64 z6, .int .i64 z7, .int .i64 z8, .int .i64 z9, .int .i64 e1, .int .i64 e2, .int .i64 e3, .int .i64 e4, .slice e5 e6 e7] 40)
      have B3 : Hid (Below wr.heap.size wr (wr.alloc (.cells #[.int .i64 z0, .int .i64 z1, .int .i64 z2, .slice pa np pc, .int .i64 z4, .int .i64 z5, .int .i64 z6, .int .i64 z7, .int .i64 z8, .int .i64 z9, .int .i64 e1, .int .i64 e2, .int .i64 e3, .int .i64 e4, .slice e5 e6 e7] 40))) := Lib.hid ((Below.refl _ _).alloc (Nat.le_refl _) _)
      have hlo := HA.out.lo
      have hsz := HA.out.sz
      rw [hm] at Y3 hsz
      have g0 := cellAt (i := 0) Y3.out rfl
      have g1 := cellAt (i := 1) Y3.out rfl
      have g2 := cellAt (i := 2) Y3.out rfl
      have g3 := cellAt (i := 3) Y3.out rfl
      have g4 := cellAt (i := 4) Y3.out rfl
      have g5 := cellAt (i := 5) Y3.out rfl
      have g6 := cellAt (i := 6) Y3.out rfl
      have g7 := cellAt (i := 7) Y3.out rfl
      have g8 := cellAt (i := 8) Y3.out rfl
      have g9 := cellAt (i := 9) Y3.out rfl
      have g10 := cellAt (i := 10) Y3.out rfl
      have g11 := cellAt (i := 11) Y3.out rfl
      have g12 := cellAt (i := 12) Y3.out rfl
      have g13 := cellAt (i := 13) Y3.out rfl
      have g14 := cellAt (i := 14) Y3.out rfl
      have r3 := cellAt (i := 3) A3.out.box rfl
      go_wp2_with fail
      generalize World.alloc wr _ = W3 at *
      go_region_with (first
        | (go_at_call 17; (with_reducible refine (CP.out _ (Below.drew B3.out)).mono ?_); rintro e w5 ⟨v0, v1, v2, v3, v4, v5, v6, v7, v8, v9, v10, v11, v12, v13, v14, v15, rfl, hb5, hK⟩; obtain ⟨j0, j1, j2, l2, m2, j3, j4, j5, j6, j7, j8, j9, j10, j11, j12, j13, j14, j15, l15, m15, rfl, rfl, rfl, rfl, rfl, rfl, rfl, rfl, rfl, rfl, rfl, rfl, rfl, rfl, rfl, rfl⟩ := pt_shape (hK none (fun b h => (by cases h))).now; have hb6 : Below W3.heap.size W3 w5 := Below.trans (Below.drew (Below.refl _ _)) hb5; obtain ⟨va, vn, vc, w7, hrun, hbox7, A8⟩ := A3.out.app hb6 hK (fun u hu => (by simp only [List.mem_cons, List.not_mem_nil, or_false] at hu; rcases hu with rfl | rfl | rfl | rfl | rfl | rfl | rfl | rfl | rfl | rfl | rfl | rfl | rfl | rfl | rfl | rfl <;> rfl)) LL.out rfl; have A5 := A3.out.below hb6; have u3 := cellAt (i := 3) A5.box rfl; have u5 := cellAt (i := 3) (A5.below ((Below.refl _ _).alloc (Nat.le_refl _) (.cells #[.int .i64 j0, .string j1, .slice j2 l2 m2, .int .i64 j3, .int .i64 j4, .string j5, .int .i64 j6, .int .i64 j7, .string j8, .int .i64 j9, .string j10, .int .i64 j11, .string j12, .int .i64 j13, .int .i64 j14, .slice j15 l15 m15] 59))).box rfl; have u7 := cellAt (i := 3) hbox7 rfl; have u8 : ∀ i, w7.frozen? ⟨P, i, none⟩ = false := fun i => (by simp [World.frozen?, hbox7])))
      all_goals
        have A9 : Hid (RW M P w pr (some ⟨g, 0, none⟩) l c ag (.slice va vn vc) ((R.map ptT).take (k + 1)) (w7.setCell ⟨P, 3, none⟩ (.slice va vn vc))) := Lib.hid (by rw [TS.out]; exact A8)
        clear A8 A5 u3 u5 u7 u8 hbox7 hrun hb5 hb6 hK r3 g0 g1 g2 g3 g4 g5 g6 g7 g8 g9 g10 g11 g12 g13 g14
        go_wp2_with fail
        go_roundw
        case rel => exact ⟨k + 1, _, by omega, by go_num, A9⟩
        case measure => simp [intOf]; omega
    · obtain rfl : k = N := by omega
      have TL : Hid ((R.map ptT).take k = R.map ptT) := Lib.hid (List.take_of_length_le (by rw [List.length_map, HN.out]; omega))
      rw [TL.out] at HA
      obtain ⟨va, vc, rfl, _⟩ := HA.out.row.shape
      have hres := HA.out.res
      have hbox := HA.out.box
      have hlo := HA.out.lo
      have HL2 : Hid ((R.map ptT).length = k) := Lib.hid (by rw [List.length_map, HN.out])
      rw [HL2.out] at HA hbox
      obtain ⟨s0, s1, s2, s3, s4⟩ := cells5 hbox
      obtain ⟨n0, n1, n2, n3, n4⟩ := cells5 hres
      have frM : ∀ i, wr.frozen? ⟨M + 1, i, none⟩ = false := fun i => by simp [World.frozen?, hres]
      have E1 := Lib.hid (heap_set5 (y0 := .string pr) (y1 := .slice (some ⟨g, 0, none⟩) l.length c) (y2 := .int .i64 ag) (y3 := .slice va k vc) (y4 := .int .i64 0) hres)
      have R1 := Lib.hid (below_set5 (y0 := .string pr) (y1 := .slice (some ⟨g, 0, none⟩) l.length c) (y2 := .int .i64 ag) (y3 := .slice va k vc) (y4 := .int .i64 0) HA.out.bel (show M ≤ M + 1 by omega))
      have F1 := Lib.hid (RW.fin HA.out HM.out (size_set5 wr (M + 1) (.string pr) (.slice (some ⟨g, 0, none⟩) l.length c) (.int .i64 ag) (.slice va k vc) (.int .i64 0)) R1.out (fun q hq => other_set5 wr _ _ _ _ _ hq) HCAP.out)
      clear hres hbox
      generalize l.length = nl at *
      go_wp2_with fail
      obtain ⟨d0, d1, d2, d3, d4⟩ := cells5 E1.out
      refine bodyPost_ret (v := .agg #[.string pr, .slice (some ⟨g, 0, none⟩) nl c, .int .i64 ag, .slice va k vc, .int .i64 0]) ?_ rfl F1.out
      simp [results, Tryd.results23, go_sem, d0, d1, d2, d3, d4]
end Go.Proofs.YtaglbeokecbihaaDoor
