/- play: a store behind acts, beside plain sets. -/
import Derived.Test.YtepkmhcchmladaaSt17
namespace Go.Proofs.Ytepkmhcchmladaa
open Go.RowKit Go.Shelf Go.Maps
set_option linter.unusedVariables false
set_option linter.unusedSimpArgs false

/-- The store and the plain sets behind k acts. -/
def PS (B : Nat) (W : World) (g wd : Nat) (most : Int) (pf pd : Option Addr) (c k : Nat) (wr : World) : Prop :=
  ∃ N G R fl dl, SB B W N G wr g wd most R dl ∧ SegN G wr wd (pf, fl) ∧ SegN G wr wd (pd, dl) ∧ PI2 wd most R fl ∧ R.length = c ∧ c ≤ k ∧ fl.length ≤ 60 * k ∧ dl.length ≤ 1000000
def PlayRet (B : Nat) (W : World) (e : Ending) (w' : World) : Prop := e = .returned (.bool true) ∧ Below B W w'
theorem neq_self (b : Bool) : (b != b) = false := by cases b <;> rfl
set_option maxRecDepth 100000 in
set_option maxHeartbeats 8000000 in
theorem play_calls {B : Nat} {W w : World} {N0 G0 : Nat → Prop} {g wd : Nat} (most : Int) (h : SB B W N0 G0 w g wd most [] []) (hwd : wd ≤ 3) {aa : Option Addr} {T : List AV} (cap : Nat) (hA : AArgs W aa T) (hT : T.length ≤ 12) (hf : ∀ x ∈ T, x.2.2.1.length ≤ 60 ∧ ∀ y ∈ x.2.2.1, y.2.1.length ≤ 8) (ra : Option Addr) (rc : Nat) (row : List Int) (hr : Row W ra row) (hrl : row.length ≤ 8) :
    Calls Try.prog 17 #[.pointer (some ⟨g, 0, none⟩), .int .i64 wd, .int .i64 most, .slice aa T.length cap, .slice ra row.length rc] w (PlayRet B W) := by
  have HB := Lib.hid h.hB
  have S0 := Lib.hid h
  have HAA := Lib.hid hA
  have HF := Lib.hid hf
  have ROW : Hid (∀ X, Below B W X → Row X ra row) := Lib.hid (fun X hX => hr.below (by rw [h.hB]; exact hX))
  have hrel : relOf (wd : Int) (([] : List RV).map (·.2.1)) = [] := rfl
  have cm := make_later wd none 0 [] w ⟨.inl rfl, fun x hx => by cases hx⟩ (by omega) (by simp) (fun x hx => by cases hx)
  rw [hrel] at cm
  clear h hA hf hr
  go_enter Try.func17, Try.ntmps17
  go_wp2_with fail
  refine cm.mono ?_
  rintro e w1 ⟨p0, rfl, hl, hb1⟩
  have S1 := Lib.hid (S0.out.below hb1)
  have P1 := Lib.hid (S0.out.row hl)
  have cm := make_later wd none 0 [] w1 ⟨.inl rfl, fun x hx => by cases hx⟩ (by omega) (by simp) (fun x hx => by cases hx)
  rw [hrel] at cm
  clear hl hb1 S0 hrel
  go_wp2_with fail
  refine cm.mono ?_
  rintro e w2 ⟨p1, rfl, hl, hb2⟩
  have D2 : Hid (PS B W g wd most p0 p1 0 0 w2) := Lib.hid ⟨_, _, [], [], [], S1.out.below hb2, P1.out.below hb2, S1.out.row hl, pi2_nil wd most, rfl, Nat.le_refl _, Nat.le_refl _, Nat.zero_le _⟩
  clear hl hb2 S1 P1 cm
  go_wp2_with fail
  go_loopw [11, 12, 13, 23] (fun vf vd vc s wr => ∃ (k c : Nat) (pf pd : Option Addr), k ≤ T.length ∧ s = .int .i64 k ∧ vf = .pointer pf ∧ vd = .pointer pd ∧ vc = .int .i64 c ∧ Hid (PS B W g wd most pf pd c k wr)) (fun vf vd vc s _ => T.length - (intOf s).toNat)
  case atStart => exact ⟨0, 0, p0, p1, Nat.zero_le _, rfl, rfl, rfl, rfl, D2⟩
  case round =>
    obtain ⟨k, c, pf, pd, hk, rfl, rfl, rfl, rfl, HD⟩ := hrel
    by_cases hlt : k < T.length
    · obtain ⟨N, G, R, fl, dl, hS, hpf, hpd, hpi, hrc, hck, hfl, hdl0⟩ := HD.out
      obtain ⟨b, off, rfl, hc1, hc2⟩ := HAA.out.at HB.out hS.bel hlt
      have hn := HAA.out.rows _ (atA_mem hlt)
      have hfw := HF.out _ (atA_mem hlt)
      have HS := Lib.hid hS
      have HPF := Lib.hid hpf
      have HPD := Lib.hid hpd
      have HPI := Lib.hid hpi
      have HRC := Lib.hid hrc
      have HFL := Lib.hid hfl
      clear hS hpf hpd hpi hrc hfl D2 HD
      generalize atA T k = x at *
      obtain ⟨kd, xa, xA, xc⟩ := x
      dsimp only at hc1 hc2 hn hfw
      have bA : Below wr.heap.size wr (wr.alloc (.cells #[.int .i64 kd, .slice xa xA.length xc] 66)) := (Below.refl _ _).alloc (Nat.le_refl _) _
      have HS' := Lib.hid (HS.out.below bA)
      have cm := make_later wd xa xc xA (wr.alloc (.cells #[.int .i64 kd, .slice xa xA.length xc] 66)) (hn.1.1.belowB HB.out HS'.out.bel) (by omega) (by omega) (fun x hx => by have := hfw.2 x hx; omega)
      obtain ⟨rs, hrs⟩ : ∃ rs, relOf (wd : Int) (xA.map (·.2.1)) = rs := ⟨_, rfl⟩
      have RL : Hid (rs.length ≤ 60) := Lib.hid (by rw [← hrs]; have := rel_len (wd : Int) (xA.map (·.2.1)); rw [List.length_map] at this; omega)
      have RR : Hid (∀ x ∈ rs, InRange x) := Lib.hid (by
        rw [← hrs]
        refine rel_range (fun x hx => ?_)
        obtain ⟨y, hy, rfl⟩ := List.mem_map.1 hx
        exact hn.2 y hy)
      rw [hrs] at cm
      have PF' := Lib.hid (HPF.out.below bA)
      have PD' := Lib.hid (HPD.out.below bA)
      have CA : Hid ((wr.alloc (.cells #[.int .i64 kd, .slice xa xA.length xc] 66)).cell? ⟨wr.heap.size, 0, none⟩ = some (.int .i64 kd) ∧ wr.heap.size < (wr.alloc (.cells #[.int .i64 kd, .slice xa xA.length xc] 66)).heap.size) := Lib.hid ⟨by go_simp, by simp⟩
      clear hn hfw hrs HS HPF HPD bA
      go_wp2_with fail
      refine cm.mono ?_
      rintro e w4 ⟨q, rfl, hl, hb4⟩
      have ca0 : w4.cell? ⟨wr.heap.size, 0, none⟩ = some (.int .i64 kd) := (hb4.cell (p := ⟨wr.heap.size, 0, none⟩) CA.out.2).trans CA.out.1
      have S4 := Lib.hid (HS'.out.below hb4)
      have X4 := Lib.hid (HS'.out.row hl)
      have PF4 := Lib.hid (PF'.out.below hb4)
      have PD4 := Lib.hid (PD'.out.below hb4)
      have hfk : fl.length ≤ 660 := by have := HFL.out; omega
      have hRk : R.length ≤ 12 := by have := HRC.out; omega
      have HFR : Hid (R.flatten.length = fl.length) := Lib.hid HPI.out.perm.length_eq.symm
      generalize wr.heap.size = ab at *
      generalize wr.alloc _ = wq at *
      clear hl hb4 cm HS' PF' PD' CA hc1 hc2
      obtain ⟨z, hz⟩ : ∃ z, bits .and .i64 kd 3 = z := ⟨_, rfl⟩
      by_cases h2 : z = 2
      · have tz : (bits .and .i64 kd 3 == 2) = true := by rw [hz, h2]; rfl
        clear hz h2
        have cp := stCompact_calls S4.out.st (by omega) (by omega) (by have := HFR.out; omega)
        have hm0 : True := trivial
        have cln := compact_len wd R
        have hRc := HRC.out
        have hRZ : (compactR wd R).length = min c 1 := by omega
        have tri : ((compactR wd R).length : Int) = min (c : Int) 1 := by omega
        have tr : (((compactR wd R).length : Int) != min (c : Int) 1) = false := by rw [tri]; simp
        have tr1 : (((compactR wd R).length : Int) == min (c : Int) 1) = true := by rw [tri]; simp
        have PIZ := Lib.hid HPI.out.compact
        have HRZ := Lib.hid hRZ
        clear cln hRZ hRc tri
        generalize compactR wd R = RZ at *
        go_wp2_with fail
        refine cp.mono ?_
        intro e w5 h5
        obtain ⟨rfl, N5, G5, h5, hq5⟩ := sb_of S4.out h5
        have SZ := Lib.hid h5
        have PFZ := Lib.hid (hq5 _ _ PF4.out)
        have PDZ := Lib.hid (hq5 _ _ PD4.out)
        have hflz : fl.length ≤ 60 * (k + 1) := by have := HFL.out; omega
        have hdl : dl.length ≤ 1000000 := hdl0
        clear h5 hq5 cp S4 PF4 PD4 X4 ca0
        obtain ⟨flz, hflq⟩ : ∃ flz, flz = fl := ⟨_, rfl⟩
        obtain ⟨dlz, hdlq⟩ : ∃ dlz, dlz = dl := ⟨_, rfl⟩
        rw [← hflq] at hflz PFZ PIZ
        rw [← hdlq] at hdl SZ PDZ
        clear hflq hdlq
        have hRb : RZ.length ≤ 13 := by have := HRZ.out; omega
        have HFZ := Lib.hid (PIZ.out.perm.length_eq)
        have hfb : flz.length ≤ 720 := by omega
        have cfu := stFull_calls SZ.out.st (by omega) (by omega) (by have := HFZ.out; omega)
        rw [PIZ.out.full] at cfu
        go_wp2_with fail
        refine cfu.mono ?_
        rintro e v1 ⟨qt1, rfl, hq, hb⟩
        have S1 := Lib.hid (SZ.out.below hb)
        have F1 := Lib.hid (PFZ.out.below hb)
        have D1 := Lib.hid (PDZ.out.below hb)
        have cm := same_calls hq.seg F1.out.seg (by show flz.length ≤ 1000000; omega) (by show flz.length ≤ 1000000; omega) (by omega) (by omega)
        rw [decide_eq_true rfl] at cm
        clear hq hb SZ PFZ PDZ cfu
        go_wp2_with fail
        refine cm.mono ?_
        rintro e v2 ⟨rfl, n2, rfl⟩
        have S2 := Lib.hid (S1.out.below (below_drewN (Below.refl _ v1) n2))
        have F2 := Lib.hid (F1.out.below (below_drewN (Below.refl _ v1) n2))
        have D2 := Lib.hid (D1.out.below (below_drewN (Below.refl _ v1) n2))
        clear cm S1 F1 D1
        generalize v1.drewN n2 = v2 at *
        have cd := stDelta_calls S2.out.st
        go_wp2_with fail
        refine cd.mono ?_
        rintro e w' ⟨qt2, rfl, hq, rfl⟩
        have cm := same_calls hq.seg D2.out.seg (by show dlz.length ≤ 1000000; omega) (by show dlz.length ≤ 1000000; omega) (by omega) (by omega)
        rw [decide_eq_true rfl] at cm
        clear hq cd
        go_wp2_with fail
        refine cm.mono ?_
        rintro e v3 ⟨rfl, n3, rfl⟩
        have S3 := Lib.hid (S2.out.below (below_drewN (Below.refl _ v2) n3))
        have F3 := Lib.hid (F2.out.below (below_drewN (Below.refl _ v2) n3))
        have D3 := Lib.hid (D2.out.below (below_drewN (Below.refl _ v2) n3))
        clear cm S2 F2 D2
        generalize v2.drewN n3 = v3 at *
        have cl := stlen_is (n := (flz.length : Int)) S3.out.st (by omega) (by have := HFZ.out; omega) (by rw [HFZ.out])
        have tl9 : ((flz.length : Int) != (flz.length : Int)) = false := by simp
        go_wp2_with fail
        refine cl.mono ?_
        rintro e w' ⟨rfl, rfl⟩
        have cl := segLen_calls F3.out.seg
        dsimp only at cl
        go_wp2_with fail
        refine cl.mono ?_
        rintro e w' ⟨rfl, rfl⟩
        have cr := stRuns_calls S3.out.st
        clear cl
        go_wp2_with fail
        refine cr.mono ?_
        rintro e w' ⟨rfl, rfl⟩
        have ch := stHas_calls S3.out.st (by omega) (by omega) (by have := HFZ.out; omega) ra rc row (ROW.out _ S3.out.bel) (by omega)
        have hmem : decide (row ∈ RZ.flatten) = decide (row ∈ flz) := decide_eq_decide.2 PIZ.out.perm.mem_iff.symm
        rw [hmem] at ch
        clear cr hmem
        go_wp2_with fail
        refine ch.mono ?_
        rintro e v4 ⟨rfl, hb⟩
        have S4 := Lib.hid (S3.out.below hb)
        have F4 := Lib.hid (F3.out.below hb)
        have D4 := Lib.hid (D3.out.below hb)
        clear hb ch S3 F3 D3
        have ch := has_calls F4.out.seg ra rc row (ROW.out _ S4.out.bel) (by omega) (by omega) (by show flz.length ≤ 1000000; omega)
        dsimp only at ch
        generalize decide (row ∈ flz) = bb at *
        have tb := neq_self bb
        go_wp2_with fail
        refine ch.mono ?_
        rintro e v5 ⟨rfl, hb⟩
        have NX : Hid (PS B W g wd most pf pd (min c 1) (k + 1) v5) := Lib.hid ⟨_, _, RZ, flz, dlz, S4.out.below hb, F4.out.below hb, D4.out.below hb, PIZ.out, HRZ.out, by omega, by omega, hdl⟩
        clear hb ch S4 F4 D4
        go_wp2_with fail
        go_roundw
        case rel => exact ⟨k + 1, min c 1, pf, pd, by omega, by go_num, rfl, rfl, by first | rfl | (congr 1; omega) | go_num, NX⟩
        case measure => simp [intOf]; omega
      · by_cases h3 : z = 3
        · have tz : (bits .and .i64 kd 3 == 2) = false := by rw [hz]; simp [h2]
          have tz3 : (bits .and .i64 kd 3 == 3) = true := by rw [hz, h3]; rfl
          clear hz h2 h3
          have ca := andL_calls X4.out.seg PF4.out.seg (by omega) (by have := RL.out; show rs.length ≤ 1000000; omega) (by show fl.length ≤ 1000000; omega)
          go_wp2_with fail
          refine ca.mono ?_
          rintro e w5 ⟨q1, rfl, hs5, hb5, hc5⟩
          have S5 := Lib.hid (S4.out.below hb5)
          have X5 := Lib.hid (X4.out.below hb5)
          have PF5 := Lib.hid (PF4.out.below hb5)
          have Q5 := Lib.hid (SegN.op (w := w4) (src := [(q, rs)]) (fun t ht => by obtain rfl := List.mem_singleton.1 ht; exact X4.out) S4.out.st.lt hb5 hc5)
          have cst := stSet_calls S5.out.st (s1 := (q, rs)) (s2 := (q1, andR rs fl)) X5.out Q5.out (by omega) (by have := RL.out; show rs.length ≤ 1000; omega) RR.out
          clear hs5 hb5 hc5 ca S4 X4 PF4 PD4 ca0
          go_wp2_with fail
          refine cst.mono ?_
          intro e w6 h6
          obtain ⟨rfl, N6, G6, h6, hq6⟩ := sb_of S5.out h6
          have S6 := Lib.hid h6
          have X6 := Lib.hid (hq6 _ _ X5.out)
          have PF6 := Lib.hid (hq6 _ _ PF5.out)
          have ca := andL_calls X6.out.seg PF6.out.seg (by omega) (by have := RL.out; show rs.length ≤ 1000000; omega) (by show fl.length ≤ 1000000; omega)
          clear h6 hq6 cst S5 X5 PF5 Q5
          go_wp2_with fail
          refine ca.mono ?_
          rintro e w7 ⟨q2, rfl, hs7, hb7, hc7⟩
          have SZ := Lib.hid (S6.out.below hb7)
          have PFZ := Lib.hid (X6.out.below hb7)
          have PDZ := Lib.hid (SegN.op (w := w6) (src := [(q, rs)]) (fun t ht => by obtain rfl := List.mem_singleton.1 ht; exact X6.out) S6.out.st.lt hb7 hc7)
          have cl := segLen_calls PFZ.out.seg
          dsimp only at cl
          have PIZ := Lib.hid (pi2_set (most := most) PFZ.out.seg.1 PFZ.out.seg.2.1)
          have HRZ := Lib.hid (set_flat rs).2
          have tri : ((setRuns rs).length : Int) = min (rs.length : Int) 1 := by have := HRZ.out; omega
          have tr : (((setRuns rs).length : Int) != min (rs.length : Int) 1) = false := by rw [tri]; simp
          have tr1 : (((setRuns rs).length : Int) == min (rs.length : Int) 1) = true := by rw [tri]; simp
          have hdl : (andR rs fl).length ≤ 1000000 := by have h1 : (andR rs fl).length ≤ rs.length := List.length_filter_le ..; have := RL.out; omega
          have hflz : rs.length ≤ 60 * (k + 1) := by have := RL.out; omega
          clear hs7 hb7 hc7 ca S6 X6 PF6 tri
          generalize andR rs fl = dlz at *
          generalize setRuns rs = RZ at *
          obtain ⟨flz, hflq⟩ : ∃ flz, flz = rs := ⟨_, rfl⟩
          rw [← hflq] at hflz PFZ PIZ HRZ tr tr1 cl
          clear hflq
          go_wp2_with fail
          refine cl.mono ?_
          rintro e w' ⟨rfl, rfl⟩
          clear cl
          have hRb : RZ.length ≤ 13 := by have := HRZ.out; omega
          have HFZ := Lib.hid (PIZ.out.perm.length_eq)
          have hfb : flz.length ≤ 720 := by omega
          have cfu := stFull_calls SZ.out.st (by omega) (by omega) (by have := HFZ.out; omega)
          rw [PIZ.out.full] at cfu
          go_wp2_with fail
          refine cfu.mono ?_
          rintro e v1 ⟨qt1, rfl, hq, hb⟩
          have S1 := Lib.hid (SZ.out.below hb)
          have F1 := Lib.hid (PFZ.out.below hb)
          have D1 := Lib.hid (PDZ.out.below hb)
          have cm := same_calls hq.seg F1.out.seg (by show flz.length ≤ 1000000; omega) (by show flz.length ≤ 1000000; omega) (by omega) (by omega)
          rw [decide_eq_true rfl] at cm
          clear hq hb SZ PFZ PDZ cfu
          go_wp2_with fail
          refine cm.mono ?_
          rintro e v2 ⟨rfl, n2, rfl⟩
          have S2 := Lib.hid (S1.out.below (below_drewN (Below.refl _ v1) n2))
          have F2 := Lib.hid (F1.out.below (below_drewN (Below.refl _ v1) n2))
          have D2 := Lib.hid (D1.out.below (below_drewN (Below.refl _ v1) n2))
          clear cm S1 F1 D1
          generalize v1.drewN n2 = v2 at *
          have cd := stDelta_calls S2.out.st
          go_wp2_with fail
          refine cd.mono ?_
          rintro e w' ⟨qt2, rfl, hq, rfl⟩
          have cm := same_calls hq.seg D2.out.seg (by show dlz.length ≤ 1000000; omega) (by show dlz.length ≤ 1000000; omega) (by omega) (by omega)
          rw [decide_eq_true rfl] at cm
          clear hq cd
          go_wp2_with fail
          refine cm.mono ?_
          rintro e v3 ⟨rfl, n3, rfl⟩
          have S3 := Lib.hid (S2.out.below (below_drewN (Below.refl _ v2) n3))
          have F3 := Lib.hid (F2.out.below (below_drewN (Below.refl _ v2) n3))
          have D3 := Lib.hid (D2.out.below (below_drewN (Below.refl _ v2) n3))
          clear cm S2 F2 D2
          generalize v2.drewN n3 = v3 at *
          have cl := stlen_is (n := (flz.length : Int)) S3.out.st (by omega) (by have := HFZ.out; omega) (by rw [HFZ.out])
          have tl9 : ((flz.length : Int) != (flz.length : Int)) = false := by simp
          go_wp2_with fail
          refine cl.mono ?_
          rintro e w' ⟨rfl, rfl⟩
          have cl := segLen_calls F3.out.seg
          dsimp only at cl
          go_wp2_with fail
          refine cl.mono ?_
          rintro e w' ⟨rfl, rfl⟩
          have cr := stRuns_calls S3.out.st
          clear cl
          go_wp2_with fail
          refine cr.mono ?_
          rintro e w' ⟨rfl, rfl⟩
          have ch := stHas_calls S3.out.st (by omega) (by omega) (by have := HFZ.out; omega) ra rc row (ROW.out _ S3.out.bel) (by omega)
          have hmem : decide (row ∈ RZ.flatten) = decide (row ∈ flz) := decide_eq_decide.2 PIZ.out.perm.mem_iff.symm
          rw [hmem] at ch
          clear cr hmem
          go_wp2_with fail
          refine ch.mono ?_
          rintro e v4 ⟨rfl, hb⟩
          have S4 := Lib.hid (S3.out.below hb)
          have F4 := Lib.hid (F3.out.below hb)
          have D4 := Lib.hid (D3.out.below hb)
          clear hb ch S3 F3 D3
          have ch := has_calls F4.out.seg ra rc row (ROW.out _ S4.out.bel) (by omega) (by omega) (by show flz.length ≤ 1000000; omega)
          dsimp only at ch
          generalize decide (row ∈ flz) = bb at *
          have tb := neq_self bb
          go_wp2_with fail
          refine ch.mono ?_
          rintro e v5 ⟨rfl, hb⟩
          have NX : Hid (PS B W g wd most q q2 (min flz.length 1) (k + 1) v5) := Lib.hid ⟨_, _, RZ, flz, dlz, S4.out.below hb, F4.out.below hb, D4.out.below hb, PIZ.out, HRZ.out, by omega, by omega, hdl⟩
          clear hb ch S4 F4 D4
          go_wp2_with fail
          go_roundw
          case rel => exact ⟨k + 1, min flz.length 1, q, q2, by omega, by go_num, rfl, rfl, by first | rfl | (congr 1; omega) | go_num, NX⟩
          case measure => simp [intOf]; omega
        · have tz : (bits .and .i64 kd 3 == 2) = false := by rw [hz]; simp [h2]
          have tz3 : (bits .and .i64 kd 3 == 3) = false := by rw [hz]; simp [h3]
          clear hz h2 h3
          have ca := minusL_calls X4.out.seg PF4.out.seg (by omega) (by have := RL.out; show rs.length ≤ 1000000; omega) (by show fl.length ≤ 1000000; omega)
          go_wp2_with fail
          refine ca.mono ?_
          rintro e w5 ⟨q1, rfl, hs5, hb5, hc5⟩
          have S5 := Lib.hid (S4.out.below hb5)
          have X5 := Lib.hid (X4.out.below hb5)
          have PF5 := Lib.hid (PF4.out.below hb5)
          have Q5 := Lib.hid (SegN.op (w := w4) (src := [(q, rs)]) (fun t ht => by obtain rfl := List.mem_singleton.1 ht; exact X4.out) S4.out.st.lt hb5 hc5)
          have co := orL_calls PF5.out.seg X5.out.seg (by omega) (by have := RL.out; show fl.length + rs.length ≤ 1000000; omega)
          obtain ⟨st1, st2, st3⟩ := HPI.out.step X5.out.seg.1 X5.out.seg.2.1
          have PIZ := Lib.hid st2
          have HRZ := Lib.hid st3
          have ST1 := Lib.hid st1
          have hnl : (minusR rs fl).length ≤ rs.length := List.length_filter_le ..
          have hol : (orR fl rs).length ≤ 60 * (k + 1) := by
            have h1 : (orR fl rs).length = (fl ++ minusR rs fl).length := (or_minus_perm PF5.out.seg.1 X5.out.seg.1).length_eq
            rw [List.length_append] at h1
            have := RL.out
            have := HFL.out
            omega
          clear hs5 hb5 hc5 ca S4 X4 PF4 PD4 ca0 st1 st2 st3
          dsimp only at PIZ HRZ ST1
          generalize hnew : minusR rs fl = dlz at *
          go_wp2_with fail
          refine co.mono ?_
          rintro e w6 ⟨q2, rfl, hs6, hb6, hc6⟩
          have S6 := Lib.hid (S5.out.below hb6)
          have X6 := Lib.hid (X5.out.below hb6)
          have Q6 := Lib.hid (Q5.out.below hb6)
          have O6 := Lib.hid (SegN.op (w := w5) (src := [(pf, fl), (q, rs)]) (fun t ht => by
            rcases List.mem_cons.1 ht with rfl | ht
            · exact PF5.out
            · obtain rfl := List.mem_singleton.1 ht; exact X5.out) S5.out.st.lt hb6 hc6)
          have cl := segLen_calls Q6.out.seg
          dsimp only at cl
          have cs := sbStep_calls S6.out (s := (q, rs)) X6.out (by omega) (by omega) (by have := RL.out; have := HFR.out; show R.flatten.length + rs.length ≤ 1000; omega) RR.out
          dsimp only at cs
          rw [ST1.out] at cs
          have hdl : dlz.length ≤ 1000000 := by have := RL.out; omega
          have tn : ((dlz.length : Int) != (dlz.length : Int)) = false := by simp
          have hflz := hol
          clear hnew hnl hol
          by_cases h0 : dlz = []
          · by_cases hm : 0 < most
            · have h00 := h0
              have tp : decide ((0 : Int) < (dlz.length : Int)) = false := by rw [h0]; rfl
              have tp2 : decide (0 < dlz.length) = false := by rw [h0]; rfl
              have hmo := HPI.out.most
              have hc9 : runsTo most R.length dlz = c := by
                unfold runsTo
                rw [if_pos h0, if_neg (fun hc => by have := hmo hc.1; omega)]
                exact HRC.out
              have g1 : decide ((0 : Int) < most) = true := decide_eq_true hm
              have g2 : decide (most < (c : Int)) = false := decide_eq_false (by have := hmo hm; have := HRC.out; omega)
              clear h0 h00 hmo hm
              have hz9 : (stepRuns wd most R dlz).length = c := HRZ.out.trans hc9
              have tri : ((stepRuns wd most R dlz).length : Int) = (c : Int) := by omega
              have tr : (((stepRuns wd most R dlz).length : Int) != (c : Int)) = false := by rw [tri]; simp
              have tr1 : (((stepRuns wd most R dlz).length : Int) == (c : Int)) = true := by rw [tri]; simp
              have HRZ := Lib.hid hz9
              clear hz9 hc9 tri
              generalize stepRuns wd most R dlz = RZ at *
              generalize orR fl rs = flz at *
              clear hs6 hb6 hc6 co S5 X5 PF5 Q5
              go_wp2_with fail
              refine cl.mono ?_
              rintro e w' ⟨rfl, rfl⟩
              clear cl
              go_wp2_with fail
              refine cs.mono ?_
              rintro e w7 ⟨rfl, N7, G7, h7, hq7⟩
              have SZ := Lib.hid h7
              have PFZ := Lib.hid (hq7 _ _ O6.out)
              have PDZ := Lib.hid (hq7 _ _ Q6.out)
              have cl := segLen_calls PDZ.out.seg
              dsimp only at cl
              clear h7 hq7 cs S6 X6 O6 Q6
              go_wp2_with fail
              refine cl.mono ?_
              rintro e w' ⟨rfl, rfl⟩
              clear cl
              have hRb : RZ.length ≤ 13 := by have := HRZ.out; omega
              have HFZ := Lib.hid (PIZ.out.perm.length_eq)
              have hfb : flz.length ≤ 720 := by omega
              have cfu := stFull_calls SZ.out.st (by omega) (by omega) (by have := HFZ.out; omega)
              rw [PIZ.out.full] at cfu
              go_wp2_with fail
              refine cfu.mono ?_
              rintro e v1 ⟨qt1, rfl, hq, hb⟩
              have S1 := Lib.hid (SZ.out.below hb)
              have F1 := Lib.hid (PFZ.out.below hb)
              have D1 := Lib.hid (PDZ.out.below hb)
              have cm := same_calls hq.seg F1.out.seg (by show flz.length ≤ 1000000; omega) (by show flz.length ≤ 1000000; omega) (by omega) (by omega)
              rw [decide_eq_true rfl] at cm
              clear hq hb SZ PFZ PDZ cfu
              go_wp2_with fail
              refine cm.mono ?_
              rintro e v2 ⟨rfl, n2, rfl⟩
              have S2 := Lib.hid (S1.out.below (below_drewN (Below.refl _ v1) n2))
              have F2 := Lib.hid (F1.out.below (below_drewN (Below.refl _ v1) n2))
              have D2 := Lib.hid (D1.out.below (below_drewN (Below.refl _ v1) n2))
              clear cm S1 F1 D1
              generalize v1.drewN n2 = v2 at *
              have cd := stDelta_calls S2.out.st
              go_wp2_with fail
              refine cd.mono ?_
              rintro e w' ⟨qt2, rfl, hq, rfl⟩
              have cm := same_calls hq.seg D2.out.seg (by show dlz.length ≤ 1000000; omega) (by show dlz.length ≤ 1000000; omega) (by omega) (by omega)
              rw [decide_eq_true rfl] at cm
              clear hq cd
              go_wp2_with fail
              refine cm.mono ?_
              rintro e v3 ⟨rfl, n3, rfl⟩
              have S3 := Lib.hid (S2.out.below (below_drewN (Below.refl _ v2) n3))
              have F3 := Lib.hid (F2.out.below (below_drewN (Below.refl _ v2) n3))
              have D3 := Lib.hid (D2.out.below (below_drewN (Below.refl _ v2) n3))
              clear cm S2 F2 D2
              generalize v2.drewN n3 = v3 at *
              have cl := stlen_is (n := (flz.length : Int)) S3.out.st (by omega) (by have := HFZ.out; omega) (by rw [HFZ.out])
              have tl9 : ((flz.length : Int) != (flz.length : Int)) = false := by simp
              go_wp2_with fail
              refine cl.mono ?_
              rintro e w' ⟨rfl, rfl⟩
              have cl := segLen_calls F3.out.seg
              dsimp only at cl
              go_wp2_with fail
              refine cl.mono ?_
              rintro e w' ⟨rfl, rfl⟩
              have cr := stRuns_calls S3.out.st
              clear cl
              go_wp2_with fail
              refine cr.mono ?_
              rintro e w' ⟨rfl, rfl⟩
              have ch := stHas_calls S3.out.st (by omega) (by omega) (by have := HFZ.out; omega) ra rc row (ROW.out _ S3.out.bel) (by omega)
              have hmem : decide (row ∈ RZ.flatten) = decide (row ∈ flz) := decide_eq_decide.2 PIZ.out.perm.mem_iff.symm
              rw [hmem] at ch
              clear cr hmem
              go_wp2_with fail
              refine ch.mono ?_
              rintro e v4 ⟨rfl, hb⟩
              have S4 := Lib.hid (S3.out.below hb)
              have F4 := Lib.hid (F3.out.below hb)
              have D4 := Lib.hid (D3.out.below hb)
              clear hb ch S3 F3 D3
              have ch := has_calls F4.out.seg ra rc row (ROW.out _ S4.out.bel) (by omega) (by omega) (by show flz.length ≤ 1000000; omega)
              dsimp only at ch
              generalize decide (row ∈ flz) = bb at *
              have tb := neq_self bb
              go_wp2_with fail
              refine ch.mono ?_
              rintro e v5 ⟨rfl, hb⟩
              have NX : Hid (PS B W g wd most q2 q1 (c) (k + 1) v5) := Lib.hid ⟨_, _, RZ, flz, dlz, S4.out.below hb, F4.out.below hb, D4.out.below hb, PIZ.out, HRZ.out, by omega, by omega, hdl⟩
              clear hb ch S4 F4 D4
              go_wp2_with fail
              go_roundw
              case rel => exact ⟨k + 1, c, q2, q1, by omega, by go_num, rfl, rfl, by first | rfl | (congr 1; omega) | go_num, NX⟩
              case measure => simp [intOf]; omega
            · have h00 := h0
              have tp : decide ((0 : Int) < (dlz.length : Int)) = false := by rw [h0]; rfl
              have tp2 : decide (0 < dlz.length) = false := by rw [h0]; rfl
              have hmo := HPI.out.most
              have hc9 : runsTo most R.length dlz = c := by
                unfold runsTo
                rw [if_pos h0, if_neg (fun hc => by have := hmo hc.1; omega)]
                exact HRC.out
              have g1 : decide ((0 : Int) < most) = false := decide_eq_false hm
              clear h0 h00 hmo hm
              have hz9 : (stepRuns wd most R dlz).length = c := HRZ.out.trans hc9
              have tri : ((stepRuns wd most R dlz).length : Int) = (c : Int) := by omega
              have tr : (((stepRuns wd most R dlz).length : Int) != (c : Int)) = false := by rw [tri]; simp
              have tr1 : (((stepRuns wd most R dlz).length : Int) == (c : Int)) = true := by rw [tri]; simp
              have HRZ := Lib.hid hz9
              clear hz9 hc9 tri
              generalize stepRuns wd most R dlz = RZ at *
              generalize orR fl rs = flz at *
              clear hs6 hb6 hc6 co S5 X5 PF5 Q5
              go_wp2_with fail
              refine cl.mono ?_
              rintro e w' ⟨rfl, rfl⟩
              clear cl
              go_wp2_with fail
              refine cs.mono ?_
              rintro e w7 ⟨rfl, N7, G7, h7, hq7⟩
              have SZ := Lib.hid h7
              have PFZ := Lib.hid (hq7 _ _ O6.out)
              have PDZ := Lib.hid (hq7 _ _ Q6.out)
              have cl := segLen_calls PDZ.out.seg
              dsimp only at cl
              clear h7 hq7 cs S6 X6 O6 Q6
              go_wp2_with fail
              refine cl.mono ?_
              rintro e w' ⟨rfl, rfl⟩
              clear cl
              have hRb : RZ.length ≤ 13 := by have := HRZ.out; omega
              have HFZ := Lib.hid (PIZ.out.perm.length_eq)
              have hfb : flz.length ≤ 720 := by omega
              have cfu := stFull_calls SZ.out.st (by omega) (by omega) (by have := HFZ.out; omega)
              rw [PIZ.out.full] at cfu
              go_wp2_with fail
              refine cfu.mono ?_
              rintro e v1 ⟨qt1, rfl, hq, hb⟩
              have S1 := Lib.hid (SZ.out.below hb)
              have F1 := Lib.hid (PFZ.out.below hb)
              have D1 := Lib.hid (PDZ.out.below hb)
              have cm := same_calls hq.seg F1.out.seg (by show flz.length ≤ 1000000; omega) (by show flz.length ≤ 1000000; omega) (by omega) (by omega)
              rw [decide_eq_true rfl] at cm
              clear hq hb SZ PFZ PDZ cfu
              go_wp2_with fail
              refine cm.mono ?_
              rintro e v2 ⟨rfl, n2, rfl⟩
              have S2 := Lib.hid (S1.out.below (below_drewN (Below.refl _ v1) n2))
              have F2 := Lib.hid (F1.out.below (below_drewN (Below.refl _ v1) n2))
              have D2 := Lib.hid (D1.out.below (below_drewN (Below.refl _ v1) n2))
              clear cm S1 F1 D1
              generalize v1.drewN n2 = v2 at *
              have cd := stDelta_calls S2.out.st
              go_wp2_with fail
              refine cd.mono ?_
              rintro e w' ⟨qt2, rfl, hq, rfl⟩
              have cm := same_calls hq.seg D2.out.seg (by show dlz.length ≤ 1000000; omega) (by show dlz.length ≤ 1000000; omega) (by omega) (by omega)
              rw [decide_eq_true rfl] at cm
              clear hq cd
              go_wp2_with fail
              refine cm.mono ?_
              rintro e v3 ⟨rfl, n3, rfl⟩
              have S3 := Lib.hid (S2.out.below (below_drewN (Below.refl _ v2) n3))
              have F3 := Lib.hid (F2.out.below (below_drewN (Below.refl _ v2) n3))
              have D3 := Lib.hid (D2.out.below (below_drewN (Below.refl _ v2) n3))
              clear cm S2 F2 D2
              generalize v2.drewN n3 = v3 at *
              have cl := stlen_is (n := (flz.length : Int)) S3.out.st (by omega) (by have := HFZ.out; omega) (by rw [HFZ.out])
              have tl9 : ((flz.length : Int) != (flz.length : Int)) = false := by simp
              go_wp2_with fail
              refine cl.mono ?_
              rintro e w' ⟨rfl, rfl⟩
              have cl := segLen_calls F3.out.seg
              dsimp only at cl
              go_wp2_with fail
              refine cl.mono ?_
              rintro e w' ⟨rfl, rfl⟩
              have cr := stRuns_calls S3.out.st
              clear cl
              go_wp2_with fail
              refine cr.mono ?_
              rintro e w' ⟨rfl, rfl⟩
              have ch := stHas_calls S3.out.st (by omega) (by omega) (by have := HFZ.out; omega) ra rc row (ROW.out _ S3.out.bel) (by omega)
              have hmem : decide (row ∈ RZ.flatten) = decide (row ∈ flz) := decide_eq_decide.2 PIZ.out.perm.mem_iff.symm
              rw [hmem] at ch
              clear cr hmem
              go_wp2_with fail
              refine ch.mono ?_
              rintro e v4 ⟨rfl, hb⟩
              have S4 := Lib.hid (S3.out.below hb)
              have F4 := Lib.hid (F3.out.below hb)
              have D4 := Lib.hid (D3.out.below hb)
              clear hb ch S3 F3 D3
              have ch := has_calls F4.out.seg ra rc row (ROW.out _ S4.out.bel) (by omega) (by omega) (by show flz.length ≤ 1000000; omega)
              dsimp only at ch
              generalize decide (row ∈ flz) = bb at *
              have tb := neq_self bb
              go_wp2_with fail
              refine ch.mono ?_
              rintro e v5 ⟨rfl, hb⟩
              have NX : Hid (PS B W g wd most q2 q1 (c) (k + 1) v5) := Lib.hid ⟨_, _, RZ, flz, dlz, S4.out.below hb, F4.out.below hb, D4.out.below hb, PIZ.out, HRZ.out, by omega, by omega, hdl⟩
              clear hb ch S4 F4 D4
              go_wp2_with fail
              go_roundw
              case rel => exact ⟨k + 1, c, q2, q1, by omega, by go_num, rfl, rfl, by first | rfl | (congr 1; omega) | go_num, NX⟩
              case measure => simp [intOf]; omega
          · by_cases hm : 0 < most
            · by_cases hm2 : most < (c : Int) + 1
              · have tp : decide ((0 : Int) < (dlz.length : Int)) = true := decide_eq_true (by have := List.length_pos_iff.2 h0; omega)
                have tp2 : decide (0 < dlz.length) = true := decide_eq_true (List.length_pos_iff.2 h0)
                have hc9 : runsTo most R.length dlz = 1 := by
                  unfold runsTo
                  rw [if_neg h0, if_pos ⟨hm, by have := HRC.out; push_cast; omega⟩]
                have g1 : decide ((0 : Int) < most) = true := decide_eq_true hm
                have g2 : decide (most < (c : Int) + 1) = true := decide_eq_true hm2
                clear h0 hm hm2
                have hz9 : (stepRuns wd most R dlz).length = 1 := HRZ.out.trans hc9
                have tri : ((stepRuns wd most R dlz).length : Int) = 1 := by omega
                have tr : (((stepRuns wd most R dlz).length : Int) != 1) = false := by rw [tri]; simp
                have tr1 : (((stepRuns wd most R dlz).length : Int) == 1) = true := by rw [tri]; simp
                have HRZ := Lib.hid hz9
                clear hz9 hc9 tri
                generalize stepRuns wd most R dlz = RZ at *
                generalize orR fl rs = flz at *
                clear hs6 hb6 hc6 co S5 X5 PF5 Q5
                go_wp2_with fail
                refine cl.mono ?_
                rintro e w' ⟨rfl, rfl⟩
                clear cl
                go_wp2_with fail
                refine cs.mono ?_
                rintro e w7 ⟨rfl, N7, G7, h7, hq7⟩
                have SZ := Lib.hid h7
                have PFZ := Lib.hid (hq7 _ _ O6.out)
                have PDZ := Lib.hid (hq7 _ _ Q6.out)
                have cl := segLen_calls PDZ.out.seg
                dsimp only at cl
                clear h7 hq7 cs S6 X6 O6 Q6
                go_wp2_with fail
                refine cl.mono ?_
                rintro e w' ⟨rfl, rfl⟩
                clear cl
                have hRb : RZ.length ≤ 13 := by have := HRZ.out; omega
                have HFZ := Lib.hid (PIZ.out.perm.length_eq)
                have hfb : flz.length ≤ 720 := by omega
                have cfu := stFull_calls SZ.out.st (by omega) (by omega) (by have := HFZ.out; omega)
                rw [PIZ.out.full] at cfu
                go_wp2_with fail
                refine cfu.mono ?_
                rintro e v1 ⟨qt1, rfl, hq, hb⟩
                have S1 := Lib.hid (SZ.out.below hb)
                have F1 := Lib.hid (PFZ.out.below hb)
                have D1 := Lib.hid (PDZ.out.below hb)
                have cm := same_calls hq.seg F1.out.seg (by show flz.length ≤ 1000000; omega) (by show flz.length ≤ 1000000; omega) (by omega) (by omega)
                rw [decide_eq_true rfl] at cm
                clear hq hb SZ PFZ PDZ cfu
                go_wp2_with fail
                refine cm.mono ?_
                rintro e v2 ⟨rfl, n2, rfl⟩
                have S2 := Lib.hid (S1.out.below (below_drewN (Below.refl _ v1) n2))
                have F2 := Lib.hid (F1.out.below (below_drewN (Below.refl _ v1) n2))
                have D2 := Lib.hid (D1.out.below (below_drewN (Below.refl _ v1) n2))
                clear cm S1 F1 D1
                generalize v1.drewN n2 = v2 at *
                have cd := stDelta_calls S2.out.st
                go_wp2_with fail
                refine cd.mono ?_
                rintro e w' ⟨qt2, rfl, hq, rfl⟩
                have cm := same_calls hq.seg D2.out.seg (by show dlz.length ≤ 1000000; omega) (by show dlz.length ≤ 1000000; omega) (by omega) (by omega)
                rw [decide_eq_true rfl] at cm
                clear hq cd
                go_wp2_with fail
                refine cm.mono ?_
                rintro e v3 ⟨rfl, n3, rfl⟩
                have S3 := Lib.hid (S2.out.below (below_drewN (Below.refl _ v2) n3))
                have F3 := Lib.hid (F2.out.below (below_drewN (Below.refl _ v2) n3))
                have D3 := Lib.hid (D2.out.below (below_drewN (Below.refl _ v2) n3))
                clear cm S2 F2 D2
                generalize v2.drewN n3 = v3 at *
                have cl := stlen_is (n := (flz.length : Int)) S3.out.st (by omega) (by have := HFZ.out; omega) (by rw [HFZ.out])
                have tl9 : ((flz.length : Int) != (flz.length : Int)) = false := by simp
                go_wp2_with fail
                refine cl.mono ?_
                rintro e w' ⟨rfl, rfl⟩
                have cl := segLen_calls F3.out.seg
                dsimp only at cl
                go_wp2_with fail
                refine cl.mono ?_
                rintro e w' ⟨rfl, rfl⟩
                have cr := stRuns_calls S3.out.st
                clear cl
                go_wp2_with fail
                refine cr.mono ?_
                rintro e w' ⟨rfl, rfl⟩
                have ch := stHas_calls S3.out.st (by omega) (by omega) (by have := HFZ.out; omega) ra rc row (ROW.out _ S3.out.bel) (by omega)
                have hmem : decide (row ∈ RZ.flatten) = decide (row ∈ flz) := decide_eq_decide.2 PIZ.out.perm.mem_iff.symm
                rw [hmem] at ch
                clear cr hmem
                go_wp2_with fail
                refine ch.mono ?_
                rintro e v4 ⟨rfl, hb⟩
                have S4 := Lib.hid (S3.out.below hb)
                have F4 := Lib.hid (F3.out.below hb)
                have D4 := Lib.hid (D3.out.below hb)
                clear hb ch S3 F3 D3
                have ch := has_calls F4.out.seg ra rc row (ROW.out _ S4.out.bel) (by omega) (by omega) (by show flz.length ≤ 1000000; omega)
                dsimp only at ch
                generalize decide (row ∈ flz) = bb at *
                have tb := neq_self bb
                go_wp2_with fail
                refine ch.mono ?_
                rintro e v5 ⟨rfl, hb⟩
                have NX : Hid (PS B W g wd most q2 q1 (1) (k + 1) v5) := Lib.hid ⟨_, _, RZ, flz, dlz, S4.out.below hb, F4.out.below hb, D4.out.below hb, PIZ.out, HRZ.out, by omega, by omega, hdl⟩
                clear hb ch S4 F4 D4
                go_wp2_with fail
                go_roundw
                case rel => exact ⟨k + 1, 1, q2, q1, by omega, by go_num, rfl, rfl, by first | rfl | (congr 1; omega) | go_num, NX⟩
                case measure => simp [intOf]; omega
              · have tp : decide ((0 : Int) < (dlz.length : Int)) = true := decide_eq_true (by have := List.length_pos_iff.2 h0; omega)
                have tp2 : decide (0 < dlz.length) = true := decide_eq_true (List.length_pos_iff.2 h0)
                have hc9 : runsTo most R.length dlz = c + 1 := by
                  unfold runsTo
                  rw [if_neg h0, if_neg (fun hc => hm2 (by have := hc.2; have := HRC.out; push_cast at *; omega)), HRC.out]
                have g1 : decide ((0 : Int) < most) = true := decide_eq_true hm
                have g2 : decide (most < (c : Int) + 1) = false := decide_eq_false hm2
                clear h0 hm hm2
                have hz9 : (stepRuns wd most R dlz).length = c + 1 := HRZ.out.trans hc9
                have tri : ((stepRuns wd most R dlz).length : Int) = (c : Int) + 1 := by omega
                have tr : (((stepRuns wd most R dlz).length : Int) != (c : Int) + 1) = false := by rw [tri]; simp
                have tr1 : (((stepRuns wd most R dlz).length : Int) == (c : Int) + 1) = true := by rw [tri]; simp
                have HRZ := Lib.hid hz9
                clear hz9 hc9 tri
                generalize stepRuns wd most R dlz = RZ at *
                generalize orR fl rs = flz at *
                clear hs6 hb6 hc6 co S5 X5 PF5 Q5
                go_wp2_with fail
                refine cl.mono ?_
                rintro e w' ⟨rfl, rfl⟩
                clear cl
                go_wp2_with fail
                refine cs.mono ?_
                rintro e w7 ⟨rfl, N7, G7, h7, hq7⟩
                have SZ := Lib.hid h7
                have PFZ := Lib.hid (hq7 _ _ O6.out)
                have PDZ := Lib.hid (hq7 _ _ Q6.out)
                have cl := segLen_calls PDZ.out.seg
                dsimp only at cl
                clear h7 hq7 cs S6 X6 O6 Q6
                go_wp2_with fail
                refine cl.mono ?_
                rintro e w' ⟨rfl, rfl⟩
                clear cl
                have hRb : RZ.length ≤ 13 := by have := HRZ.out; omega
                have HFZ := Lib.hid (PIZ.out.perm.length_eq)
                have hfb : flz.length ≤ 720 := by omega
                have cfu := stFull_calls SZ.out.st (by omega) (by omega) (by have := HFZ.out; omega)
                rw [PIZ.out.full] at cfu
                go_wp2_with fail
                refine cfu.mono ?_
                rintro e v1 ⟨qt1, rfl, hq, hb⟩
                have S1 := Lib.hid (SZ.out.below hb)
                have F1 := Lib.hid (PFZ.out.below hb)
                have D1 := Lib.hid (PDZ.out.below hb)
                have cm := same_calls hq.seg F1.out.seg (by show flz.length ≤ 1000000; omega) (by show flz.length ≤ 1000000; omega) (by omega) (by omega)
                rw [decide_eq_true rfl] at cm
                clear hq hb SZ PFZ PDZ cfu
                go_wp2_with fail
                refine cm.mono ?_
                rintro e v2 ⟨rfl, n2, rfl⟩
                have S2 := Lib.hid (S1.out.below (below_drewN (Below.refl _ v1) n2))
                have F2 := Lib.hid (F1.out.below (below_drewN (Below.refl _ v1) n2))
                have D2 := Lib.hid (D1.out.below (below_drewN (Below.refl _ v1) n2))
                clear cm S1 F1 D1
                generalize v1.drewN n2 = v2 at *
                have cd := stDelta_calls S2.out.st
                go_wp2_with fail
                refine cd.mono ?_
                rintro e w' ⟨qt2, rfl, hq, rfl⟩
                have cm := same_calls hq.seg D2.out.seg (by show dlz.length ≤ 1000000; omega) (by show dlz.length ≤ 1000000; omega) (by omega) (by omega)
                rw [decide_eq_true rfl] at cm
                clear hq cd
                go_wp2_with fail
                refine cm.mono ?_
                rintro e v3 ⟨rfl, n3, rfl⟩
                have S3 := Lib.hid (S2.out.below (below_drewN (Below.refl _ v2) n3))
                have F3 := Lib.hid (F2.out.below (below_drewN (Below.refl _ v2) n3))
                have D3 := Lib.hid (D2.out.below (below_drewN (Below.refl _ v2) n3))
                clear cm S2 F2 D2
                generalize v2.drewN n3 = v3 at *
                have cl := stlen_is (n := (flz.length : Int)) S3.out.st (by omega) (by have := HFZ.out; omega) (by rw [HFZ.out])
                have tl9 : ((flz.length : Int) != (flz.length : Int)) = false := by simp
                go_wp2_with fail
                refine cl.mono ?_
                rintro e w' ⟨rfl, rfl⟩
                have cl := segLen_calls F3.out.seg
                dsimp only at cl
                go_wp2_with fail
                refine cl.mono ?_
                rintro e w' ⟨rfl, rfl⟩
                have cr := stRuns_calls S3.out.st
                clear cl
                go_wp2_with fail
                refine cr.mono ?_
                rintro e w' ⟨rfl, rfl⟩
                have ch := stHas_calls S3.out.st (by omega) (by omega) (by have := HFZ.out; omega) ra rc row (ROW.out _ S3.out.bel) (by omega)
                have hmem : decide (row ∈ RZ.flatten) = decide (row ∈ flz) := decide_eq_decide.2 PIZ.out.perm.mem_iff.symm
                rw [hmem] at ch
                clear cr hmem
                go_wp2_with fail
                refine ch.mono ?_
                rintro e v4 ⟨rfl, hb⟩
                have S4 := Lib.hid (S3.out.below hb)
                have F4 := Lib.hid (F3.out.below hb)
                have D4 := Lib.hid (D3.out.below hb)
                clear hb ch S3 F3 D3
                have ch := has_calls F4.out.seg ra rc row (ROW.out _ S4.out.bel) (by omega) (by omega) (by show flz.length ≤ 1000000; omega)
                dsimp only at ch
                generalize decide (row ∈ flz) = bb at *
                have tb := neq_self bb
                go_wp2_with fail
                refine ch.mono ?_
                rintro e v5 ⟨rfl, hb⟩
                have NX : Hid (PS B W g wd most q2 q1 (c + 1) (k + 1) v5) := Lib.hid ⟨_, _, RZ, flz, dlz, S4.out.below hb, F4.out.below hb, D4.out.below hb, PIZ.out, HRZ.out, by omega, by omega, hdl⟩
                clear hb ch S4 F4 D4
                go_wp2_with fail
                go_roundw
                case rel => exact ⟨k + 1, c + 1, q2, q1, by omega, by go_num, rfl, rfl, by first | rfl | (congr 1; omega) | go_num, NX⟩
                case measure => simp [intOf]; omega
            · have tp : decide ((0 : Int) < (dlz.length : Int)) = true := decide_eq_true (by have := List.length_pos_iff.2 h0; omega)
              have tp2 : decide (0 < dlz.length) = true := decide_eq_true (List.length_pos_iff.2 h0)
              have hc9 : runsTo most R.length dlz = c + 1 := by
                unfold runsTo
                rw [if_neg h0, if_neg (fun hc => hm hc.1), HRC.out]
              have g1 : decide ((0 : Int) < most) = false := decide_eq_false hm
              clear h0 hm
              have hz9 : (stepRuns wd most R dlz).length = c + 1 := HRZ.out.trans hc9
              have tri : ((stepRuns wd most R dlz).length : Int) = (c : Int) + 1 := by omega
              have tr : (((stepRuns wd most R dlz).length : Int) != (c : Int) + 1) = false := by rw [tri]; simp
              have tr1 : (((stepRuns wd most R dlz).length : Int) == (c : Int) + 1) = true := by rw [tri]; simp
              have HRZ := Lib.hid hz9
              clear hz9 hc9 tri
              generalize stepRuns wd most R dlz = RZ at *
              generalize orR fl rs = flz at *
              clear hs6 hb6 hc6 co S5 X5 PF5 Q5
              go_wp2_with fail
              refine cl.mono ?_
              rintro e w' ⟨rfl, rfl⟩
              clear cl
              go_wp2_with fail
              refine cs.mono ?_
              rintro e w7 ⟨rfl, N7, G7, h7, hq7⟩
              have SZ := Lib.hid h7
              have PFZ := Lib.hid (hq7 _ _ O6.out)
              have PDZ := Lib.hid (hq7 _ _ Q6.out)
              have cl := segLen_calls PDZ.out.seg
              dsimp only at cl
              clear h7 hq7 cs S6 X6 O6 Q6
              go_wp2_with fail
              refine cl.mono ?_
              rintro e w' ⟨rfl, rfl⟩
              clear cl
              have hRb : RZ.length ≤ 13 := by have := HRZ.out; omega
              have HFZ := Lib.hid (PIZ.out.perm.length_eq)
              have hfb : flz.length ≤ 720 := by omega
              have cfu := stFull_calls SZ.out.st (by omega) (by omega) (by have := HFZ.out; omega)
              rw [PIZ.out.full] at cfu
              go_wp2_with fail
              refine cfu.mono ?_
              rintro e v1 ⟨qt1, rfl, hq, hb⟩
              have S1 := Lib.hid (SZ.out.below hb)
              have F1 := Lib.hid (PFZ.out.below hb)
              have D1 := Lib.hid (PDZ.out.below hb)
              have cm := same_calls hq.seg F1.out.seg (by show flz.length ≤ 1000000; omega) (by show flz.length ≤ 1000000; omega) (by omega) (by omega)
              rw [decide_eq_true rfl] at cm
              clear hq hb SZ PFZ PDZ cfu
              go_wp2_with fail
              refine cm.mono ?_
              rintro e v2 ⟨rfl, n2, rfl⟩
              have S2 := Lib.hid (S1.out.below (below_drewN (Below.refl _ v1) n2))
              have F2 := Lib.hid (F1.out.below (below_drewN (Below.refl _ v1) n2))
              have D2 := Lib.hid (D1.out.below (below_drewN (Below.refl _ v1) n2))
              clear cm S1 F1 D1
              generalize v1.drewN n2 = v2 at *
              have cd := stDelta_calls S2.out.st
              go_wp2_with fail
              refine cd.mono ?_
              rintro e w' ⟨qt2, rfl, hq, rfl⟩
              have cm := same_calls hq.seg D2.out.seg (by show dlz.length ≤ 1000000; omega) (by show dlz.length ≤ 1000000; omega) (by omega) (by omega)
              rw [decide_eq_true rfl] at cm
              clear hq cd
              go_wp2_with fail
              refine cm.mono ?_
              rintro e v3 ⟨rfl, n3, rfl⟩
              have S3 := Lib.hid (S2.out.below (below_drewN (Below.refl _ v2) n3))
              have F3 := Lib.hid (F2.out.below (below_drewN (Below.refl _ v2) n3))
              have D3 := Lib.hid (D2.out.below (below_drewN (Below.refl _ v2) n3))
              clear cm S2 F2 D2
              generalize v2.drewN n3 = v3 at *
              have cl := stlen_is (n := (flz.length : Int)) S3.out.st (by omega) (by have := HFZ.out; omega) (by rw [HFZ.out])
              have tl9 : ((flz.length : Int) != (flz.length : Int)) = false := by simp
              go_wp2_with fail
              refine cl.mono ?_
              rintro e w' ⟨rfl, rfl⟩
              have cl := segLen_calls F3.out.seg
              dsimp only at cl
              go_wp2_with fail
              refine cl.mono ?_
              rintro e w' ⟨rfl, rfl⟩
              have cr := stRuns_calls S3.out.st
              clear cl
              go_wp2_with fail
              refine cr.mono ?_
              rintro e w' ⟨rfl, rfl⟩
              have ch := stHas_calls S3.out.st (by omega) (by omega) (by have := HFZ.out; omega) ra rc row (ROW.out _ S3.out.bel) (by omega)
              have hmem : decide (row ∈ RZ.flatten) = decide (row ∈ flz) := decide_eq_decide.2 PIZ.out.perm.mem_iff.symm
              rw [hmem] at ch
              clear cr hmem
              go_wp2_with fail
              refine ch.mono ?_
              rintro e v4 ⟨rfl, hb⟩
              have S4 := Lib.hid (S3.out.below hb)
              have F4 := Lib.hid (F3.out.below hb)
              have D4 := Lib.hid (D3.out.below hb)
              clear hb ch S3 F3 D3
              have ch := has_calls F4.out.seg ra rc row (ROW.out _ S4.out.bel) (by omega) (by omega) (by show flz.length ≤ 1000000; omega)
              dsimp only at ch
              generalize decide (row ∈ flz) = bb at *
              have tb := neq_self bb
              go_wp2_with fail
              refine ch.mono ?_
              rintro e v5 ⟨rfl, hb⟩
              have NX : Hid (PS B W g wd most q2 q1 (c + 1) (k + 1) v5) := Lib.hid ⟨_, _, RZ, flz, dlz, S4.out.below hb, F4.out.below hb, D4.out.below hb, PIZ.out, HRZ.out, by omega, by omega, hdl⟩
              clear hb ch S4 F4 D4
              go_wp2_with fail
              go_roundw
              case rel => exact ⟨k + 1, c + 1, q2, q1, by omega, by go_num, rfl, rfl, by first | rfl | (congr 1; omega) | go_num, NX⟩
              case measure => simp [intOf]; omega
    · obtain rfl : k = T.length := by omega
      have tl : decide ((T.length : Int) < (T.length : Int)) = false := decide_eq_false (by omega)
      have F := Lib.hid (show PlayRet B W (.returned (.bool true)) wr from by
        obtain ⟨N, G, R, fl, dl, hS, _⟩ := HD.out
        exact ⟨rfl, hS.bel⟩)
      clear D2 HD
      go_wp2_with fail
      go_ret
      exact F.out
theorem fewA_ok {T : List AV} (h : fewA T = true) : T.length ≤ 12 ∧ ∀ x ∈ T, x.2.2.1.length ≤ 60 ∧ ∀ y ∈ x.2.2.1, y.2.1.length ≤ 8 := by
  unfold fewA at h
  rw [Bool.and_eq_true] at h
  refine ⟨of_decide_eq_true h.2, fun x hx => ?_⟩
  exact few_ok (List.all_eq_true.1 h.1 x hx)
set_option maxRecDepth 100000 in
set_option maxHeartbeats 4000000 in
theorem storeActs_walk {W : World} (width most : Int) {a : Option Addr} {T : List AV} (cap : Nat) (h : AArgs W a T) {ra : Option Addr} {rlen rc : Nat} {zs : List Int} (hz : IsRow .i64 W ra rlen rc zs) (hw : -9223372036854775808 ≤ width ∧ width ≤ 9223372036854775807) (hm : -9223372036854775808 ≤ most ∧ most ≤ 9223372036854775807) :
    Calls Try.prog 4 #[.int .i64 width, .int .i64 most, .slice a T.length cap, .slice ra rlen rc] W (TrueRet5 W) := by
  obtain ⟨row, e2, hr, _, hml⟩ := isRow_row hz (fun _ h => bounds_i64 h)
  subst e2
  have hd := head11_calls W
  obtain ⟨B, hB⟩ : ∃ B, W.heap.size = B := ⟨_, rfl⟩
  have HB := Lib.hid hB
  have H := Lib.hid h
  have HR := Lib.hid hr
  obtain ⟨wd, hwd3, hwde⟩ := width4 width
  clear h hr hB hz
  go_enter Try.func4, Try.ntmps4
  go_wp2_with fail
  refine hd.mono ?_
  rintro e w1 ⟨rfl, hb1⟩
  have B1 : Hid (Below B W w1) := Lib.hid (by rw [← HB.out]; exact hb1)
  have A1 : Hid (AArgs w1 a T) := Lib.hid ⟨by
    rcases H.out.cells with h0 | ⟨b, off, ha, hlt, hc⟩
    · exact .inl h0
    · exact .inr ⟨b, off, ha, Nat.lt_of_lt_of_le hlt hb1.size, fun i hi => ⟨(hb1.cell (p := ⟨b, off + i * 2, none⟩) hlt).trans (hc i hi).1, (hb1.cell (p := ⟨b, off + i * 2 + 1, none⟩) hlt).trans (hc i hi).2⟩⟩, fun x hx => ⟨⟨(H.out.rows x hx).1.1.below hb1, (H.out.rows x hx).1.2⟩, (H.out.rows x hx).2⟩, H.out.len⟩
  have cf := fewA_calls cap A1.out
  clear hd hb1
  go_wp2_with fail
  refine cf.mono ?_
  rintro e w2 ⟨⟨b, rfl, hb⟩, hb2⟩
  have B2 : Hid (Below B W w2) := Lib.hid (B1.out.trans (hb2.mono (by have := B1.out.size; rw [HB.out] at this; exact this)))
  clear cf hb2
  cases b
  · clear hb
    go_wp2_with fail
    go_ret
    exact ⟨rfl, by rw [HB.out]; exact B2.out⟩
  · obtain ⟨hT, hTx⟩ := fewA_ok (hb rfl)
    have HTX := Lib.hid hTx
    clear hb hTx
    by_cases h8 : 8 < row.length
    · have t8 : decide ((8 : Int) < (row.length : Int)) = true := decide_eq_true (by omega)
      go_wp2_with fail
      go_ret
      exact ⟨rfl, by rw [HB.out]; exact B2.out⟩
    · have t8 : decide ((8 : Int) < (row.length : Int)) = false := decide_eq_false (by omega)
      go_wp2_with fail
      rw [hwde]
      clear hwde
      refine (sbNew_calls wd _ HB.out B2.out (by omega)).mono ?_
      rintro e w3 ⟨g, rfl, hsb, hb3⟩
      have cp := play_calls _ hsb hwd3 cap H.out hT HTX.out ra rc row HR.out (by omega)
      clear hsb hb3
      go_wp2_with fail
      refine cp.mono ?_
      rintro e w4 ⟨rfl, hb4⟩
      have F := Lib.hid (show TrueRet5 W (.returned (.bool true)) w4 from ⟨rfl, by rw [HB.out]; exact hb4⟩)
      clear cp hb4
      go_wp2_with fail
      go_ret
      exact F.out
end Go.Proofs.Ytepkmhcchmladaa

