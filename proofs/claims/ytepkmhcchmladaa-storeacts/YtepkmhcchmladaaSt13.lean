/- StoreDeltas walked. -/
import Derived.Test.YtepkmhcchmladaaSt12
import Derived.Test.YtepkmhcchmladaaUArg
namespace Go.Proofs.Ytepkmhcchmladaa
open Go.RowKit Go.Shelf Go.Maps
set_option linter.unusedVariables false
set_option linter.unusedSimpArgs false

theorem StS.widths {N G : Nat → Prop} {w : World} {g wd : Nat} {most : Int} {runs : List (List (List Int))} {dl : List (List Int)} (h : StS N G w g wd most runs dl) : ∀ r ∈ runs.flatten, r.length = wd := by
  obtain ⟨segs, _, _, _, _, hk, _, rfl, _⟩ := h
  rw [← flat_is]; exact hk.widths
theorem StS.nodup {N G : Nat → Prop} {w : World} {g wd : Nat} {most : Int} {runs : List (List (List Int))} {dl : List (List Int)} (h : StS N G w g wd most runs dl) : runs.flatten.Nodup := by
  obtain ⟨segs, _, _, _, _, hk, _, rfl, _, h, _⟩ := h; exact h
theorem sorted_nodup {l : List (List Int)} (h : SortedR l) : l.Nodup := List.Pairwise.imp (fun h e => by rw [e, cmpR_self] at h; omega) h
/-- What a step adds. -/
theorem step_perm {wd : Nat} {most : Int} {runs : List (List (List Int))} {rows : List (List Int)} (hr : runs.flatten.Nodup) (hs : rows.Nodup) (hw : ∀ r ∈ runs.flatten, r.length = wd) (hl : ∀ r ∈ rows, r.length = wd) :
    (stepRuns wd most runs (minusR rows runs.flatten)).flatten.Perm (runs.flatten ++ minusR rows runs.flatten) ∧ (stepRuns wd most runs (minusR rows runs.flatten)).length ≤ runs.length + 1 := by
  have hn : (minusR rows runs.flatten).Nodup := hs.sublist List.filter_sublist
  have hd : (runs.flatten ++ minusR rows runs.flatten).Nodup := List.nodup_append.2 ⟨hr, hn, fun x hx y hy e => ((mem_minus _ _ _).1 hy).2 (e ▸ hx)⟩
  have hwd : ∀ r ∈ runs.flatten ++ minusR rows runs.flatten, r.length = wd := fun r hr => by
    rcases List.mem_append.1 hr with h | h
    · exact hw r h
    · exact hl r ((mem_minus _ _ _).1 h).1
  have hp := join_perm hwd hd
  generalize minusR rows runs.flatten = new at *
  have e : (runs ++ [new]).flatten = runs.flatten ++ new := by simp
  unfold stepRuns
  by_cases h0 : new = []
  · rw [if_pos h0, h0, List.append_nil]; exact ⟨List.Perm.refl _, by omega⟩
  · rw [if_neg h0]
    split
    · unfold compactR
      split
      · rw [e, List.flatten_cons, List.flatten_nil, List.append_nil]
        exact ⟨hp, by simp⟩
      · rw [e]; exact ⟨List.Perm.refl _, by simp⟩
    · rw [e]; exact ⟨List.Perm.refl _, by simp⟩
theorem or_perm {al new T : List (List Int)} (ha : SortedR al) (hp : al.Perm T) (hd : (T ++ new).Nodup) : (orR al new).Perm (T ++ new) := by
  refine (List.perm_ext_iff_of_nodup (sorted_nodup (or_sorted ha new)) hd).2 (fun x => ?_)
  rw [mem_or ha, List.mem_append, hp.mem_iff]
theorem and_none {al new T : List (List Int)} (hp : al.Perm T) (hd : ∀ x ∈ new, x ∉ T) : andR new al = [] := by
  unfold andR
  refine List.filter_eq_nil_iff.2 (fun x hx => ?_)
  rw [decide_eq_true_iff]
  exact fun h => hd x hx (hp.mem_iff.1 h)
theorem rel_of_perm {wd : Nat} {al T : List (List Int)} (ha : SortedR al) (hp : al.Perm T) (hw : ∀ r ∈ T, r.length = wd) : relOf (wd : Int) T = al :=
  sorted_ext (rel_sorted _ _) ha (fun x => by rw [mem_rel, hp.mem_iff]; exact ⟨fun h => h.1, fun h => ⟨h, by rw [hw x h]⟩⟩)
/-- Store and rows beside it, behind k lists. -/
def DS (B : Nat) (W : World) (g wd : Nat) (most : Int) (p : Option Addr) (m k : Nat) (wr : World) : Prop :=
  ∃ N G runs dl al, SB B W N G wr g wd most runs dl ∧ SegN G wr wd (p, al) ∧ al.Perm runs.flatten ∧ runs.length ≤ k ∧ runs.flatten.length = m ∧ m ≤ 60 * k
set_option maxRecDepth 100000 in
set_option maxHeartbeats 4000000 in
theorem storeDeltas_walk {W : World} (width most : Int) {a : Option Addr} {T : List TV} (cap : Nat) (h : TArgsR W a T) (hw : -9223372036854775808 ≤ width ∧ width ≤ 9223372036854775807) (hm : -9223372036854775808 ≤ most ∧ most ≤ 9223372036854775807) :
    Calls Try.prog 7 #[.int .i64 width, .int .i64 most, .slice a T.length cap] W (TrueRet5 W) := by
  have hd := head11_calls W
  obtain ⟨B, hB⟩ : ∃ B, W.heap.size = B := ⟨_, rfl⟩
  have HB := Lib.hid hB
  have H := Lib.hid h
  obtain ⟨wd, hwd3, hwde⟩ := width4 width
  clear h hB
  go_enter Try.func7, Try.ntmps7
  go_wp2_with fail
  refine hd.mono ?_
  rintro e w1 ⟨rfl, hb1⟩
  have B1 : Hid (Below B W w1) := Lib.hid (by rw [← HB.out]; exact hb1)
  clear hd hb1
  by_cases h12 : 12 < T.length
  · have t1 : decide ((12 : Int) < (T.length : Int)) = true := decide_eq_true (by omega)
    go_wp2_with fail
    go_ret
    exact ⟨rfl, by rw [HB.out]; exact B1.out⟩
  · have t1 : decide ((12 : Int) < (T.length : Int)) = false := decide_eq_false (by omega)
    go_wp2_with fail
    rw [hwde]
    clear hwde
    generalize bits .and .i64 most 7 = mo at *
    refine (sbNew_calls wd mo HB.out B1.out (by omega)).mono ?_
    rintro e w2 ⟨g, rfl, hsb, hb2⟩
    have S2 := Lib.hid hsb
    have cm := make_later wd none 0 [] w2 ⟨.inl rfl, fun x hx => by cases hx⟩ (by omega) (by simp) (fun x hx => by cases hx)
    have hrel : relOf (wd : Int) (([] : List RV).map (·.2.1)) = [] := rfl
    rw [hrel] at cm
    clear hsb hb2 B1 hrel
    go_wp2_with fail
    refine cm.mono ?_
    rintro e w3 ⟨p0, rfl, hl, hb3⟩
    have D3 : Hid (DS B W g wd mo p0 0 0 w3) := Lib.hid ⟨_, _, [], [], [], S2.out.below hb3, S2.out.row hl, List.Perm.refl _, Nat.zero_le _, rfl, Nat.le_refl _⟩
    clear hl hb3 cm S2
    go_wp2_with fail
    go_loopw [8, 9, 30] (fun pv nv s wr => ∃ (k m : Nat) (p : Option Addr), k ≤ T.length ∧ s = .int .i64 k ∧ pv = .pointer p ∧ nv = .int .i64 m ∧ m ≤ 60 * k ∧ Hid (DS B W g wd mo p m k wr)) (fun pv nv s _ => T.length - (intOf s).toNat)
    case atStart => exact ⟨0, 0, p0, Nat.zero_le _, rfl, rfl, rfl, Nat.le_refl _, D3⟩
    case round =>
      obtain ⟨k, m, p, hk, rfl, rfl, rfl, hmk, HD⟩ := hrel
      by_cases hlt : k < T.length
      · obtain ⟨N, G, runs, dl, al, hS, hp, hpm, hrl, hfl, hmk'⟩ := HD.out
        obtain ⟨b, off, rfl, hc⟩ := H.out.args.at HB.out hS.bel hlt
        have hn := H.out.args.rows _ (atT_mem hlt)
        have hrg := H.out.rng _ (atT_mem hlt)
        have HS := Lib.hid hS
        have HP := Lib.hid hp
        have HPM := Lib.hid hpm
        have HRL := Lib.hid hrl
        have HFL := Lib.hid hfl
        clear hS hp hpm hrl hfl hmk' D3
        generalize atT T k = x at *
        obtain ⟨xa, xA, xc⟩ := x
        dsimp only at hc hn hrg
        have HRG := Lib.hid hrg
        have HRW := Lib.hid (hn.1.belowB HB.out HS.out.bel)
        have cf := few_calls xa xc xA wr HRW.out hn.2.1 hn.2.2
        clear hn hrg
        cases hf : fewB xA
        · rw [hf] at cf
          go_wp2_with fail
          refine cf.mono ?_
          rintro e w' ⟨rfl, rfl⟩
          have F := Lib.hid (show TrueRet5 W (.returned (.bool true)) wr from ⟨rfl, by rw [HB.out]; exact HS.out.bel⟩)
          clear HS HP HRW cf hc
          go_wp2_with fail
          go_ret
          exact F.out
        · rw [hf] at cf
          obtain ⟨hA, hAx⟩ := few_ok hf
          have cm := make_later wd xa xc xA wr HRW.out (by omega) (by omega) (fun x hx => by have := hAx x hx; omega)
          obtain ⟨rs, hrs⟩ : ∃ rs, relOf (wd : Int) (xA.map (·.2.1)) = rs := ⟨_, rfl⟩
          have RL : Hid (rs.length ≤ 60) := Lib.hid (by rw [← hrs]; have := rel_len (wd : Int) (xA.map (·.2.1)); rw [List.length_map] at this; omega)
          have RR : Hid (∀ x ∈ rs, InRange x) := Lib.hid (by
            rw [← hrs]
            refine rel_range (fun x hx => ?_)
            obtain ⟨y, hy, rfl⟩ := List.mem_map.1 hx
            exact HRG.out y hy)
          rw [hrs] at cm
          clear hf hAx hrs HRG HRW
          go_wp2_with fail
          refine cf.mono ?_
          rintro e w' ⟨rfl, rfl⟩
          clear cf
          go_wp2_with fail
          refine cm.mono ?_
          rintro e w4 ⟨q, rfl, hl, hb4⟩
          have S4 := Lib.hid (HS.out.below hb4)
          have X4 := Lib.hid (HS.out.row hl)
          have P4 := Lib.hid (HP.out.below hb4)
          have hsum : runs.flatten.length + rs.length ≤ 1000 := by have := RL.out; have := HFL.out; omega
          have cs := sbStep_calls S4.out (s := (q, rs)) X4.out (by omega) (by have := HRL.out; omega) hsum RR.out
          obtain ⟨sp1, sp2⟩ := step_perm (wd := wd) (most := mo) S4.out.st.nodup (sorted_nodup X4.out.seg.1) S4.out.st.widths X4.out.seg.2.1
          have e1 : newR wd runs wd rs = minusR rs runs.flatten := by unfold newR; rw [if_pos rfl]
          dsimp only at cs
          rw [e1] at cs
          have hnl : (minusR rs runs.flatten).length ≤ rs.length := List.length_filter_le ..
          have hnd : ∀ x ∈ minusR rs runs.flatten, x ∉ runs.flatten := fun x hx => ((mem_minus _ _ _).1 hx).2
          have hnn : (runs.flatten ++ minusR rs runs.flatten).Nodup := List.nodup_append.2 ⟨S4.out.st.nodup, (sorted_nodup X4.out.seg.1).sublist List.filter_sublist, fun x hx y hy e => hnd y hy (e ▸ hx)⟩
          generalize minusR rs runs.flatten = new at *
          generalize stepRuns wd mo runs new = runs' at *
          have SP1 := Lib.hid sp1
          have SP2 := Lib.hid sp2
          have HNN := Lib.hid hnn
          have HND := Lib.hid hnd
          have hnb : new.length ≤ 60 := by have := RL.out; omega
          have hmn : (m : Int) + (new.length : Int) ≤ 1000 := by omega
          clear hl hb4 cm HS HP sp1 sp2 hnn hnd e1 hnl hsum
          go_wp2_with fail
          refine cs.mono ?_
          rintro e w5 ⟨rfl, N5, G5, h5, hq5⟩
          have S5 := Lib.hid h5
          have P5 := Lib.hid (hq5 _ _ P4.out)
          have cd := stDelta_calls S5.out.st
          clear h5 hq5 cs S4 X4 P4
          go_wp2_with fail
          refine cd.mono ?_
          rintro e w' ⟨q5, rfl, hq, rfl⟩
          have Q5 := Lib.hid hq
          have hal : al.length ≤ 1000 := by rw [HPM.out.length_eq]; have := HFL.out; omega
          have ca := andL_calls Q5.out.seg P5.out.seg (by omega) (by show new.length ≤ 1000000; omega) (by show al.length ≤ 1000000; omega)
          rw [and_none HPM.out HND.out] at ca
          clear hq cd
          go_wp2_with fail
          refine ca.mono ?_
          rintro e w6 ⟨q6, rfl, hs6, hb6, _⟩
          have S6 := Lib.hid (S5.out.below hb6)
          have P6 := Lib.hid (P5.out.below hb6)
          have Q6 := Lib.hid (Q5.out.below hb6)
          have cl := len_is (n := 0) hs6 rfl
          clear hs6 hb6 ca S5 P5 Q5
          go_wp2_with fail
          refine cl.mono ?_
          rintro e w' ⟨rfl, rfl⟩
          have co := orL_calls P6.out.seg Q6.out.seg (by omega) (by show al.length + new.length ≤ 1000000; omega)
          clear cl
          go_wp2_with fail
          refine co.mono ?_
          rintro e w7 ⟨q7, rfl, hs7, hb7, hc7⟩
          have NX : Hid (DS B W g wd mo q7 (m + new.length) (k + 1) w7) := Lib.hid ⟨N5, G5, runs', new, orR al new, S6.out.below hb7, SegN.op (w := w6) (src := [(p, al), (q5, new)]) (fun t ht => by
              rcases List.mem_cons.1 ht with rfl | ht
              · exact P6.out
              · obtain rfl := List.mem_singleton.1 ht; exact Q6.out) S6.out.st.lt hb7 hc7, (or_perm P6.out.seg.1 HPM.out HNN.out).trans SP1.out.symm, by have := HRL.out; have := SP2.out; omega, by rw [SP1.out.length_eq, List.length_append, HFL.out], by omega⟩
          clear hs7 hb7 hc7 co S6 P6 Q6
          go_wp2_with fail
          go_roundw
          case rel => exact ⟨k + 1, m + new.length, q7, by omega, by go_num, rfl, by go_num, by omega, NX⟩
          case measure => simp [intOf]; omega
      · obtain rfl : k = T.length := by omega
        have tl : decide ((T.length : Int) < (T.length : Int)) = false := decide_eq_false (by omega)
        obtain ⟨N, G, runs, dl, al, hS, hp, hpm, hrl, hfl, hmk'⟩ := HD.out
        have HS := Lib.hid hS
        have HP := Lib.hid hp
        have HPM := Lib.hid hpm
        have HRL := Lib.hid hrl
        have HFL := Lib.hid hfl
        have cfu := stFull_calls hS.st (by omega) (by omega) (by omega)
        rw [rel_of_perm hp.seg.1 hpm hS.st.widths] at cfu
        have hal : al.length = m := by rw [hpm.length_eq, hfl]
        have t2 : ((m : Int) == (al.length : Int)) = true := by rw [hal]; simp
        have t3 : ((m : Int) == (m : Int)) = true := by simp
        have HAL := Lib.hid hal
        clear hS hp hpm hrl hfl hmk' D3 HD hal
        go_wp2_with fail
        refine cfu.mono ?_
        rintro e w4 ⟨q, rfl, hq, hb⟩
        have S4 := Lib.hid (HS.out.below hb)
        have P4 := Lib.hid (HP.out.below hb)
        have cm := same_calls P4.out.seg hq.seg (by show al.length ≤ 1000000; rw [HAL.out]; omega) (by show al.length ≤ 1000000; rw [HAL.out]; omega) (by omega) (by omega)
        rw [decide_eq_true rfl] at cm
        clear hq hb HS HP cfu
        go_wp2_with fail
        refine cm.mono ?_
        rintro e w7 ⟨rfl, n7, rfl⟩
        have S7 := Lib.hid (S4.out.below (below_drewN (Below.refl _ w4) n7))
        have P7 := Lib.hid (P4.out.below (below_drewN (Below.refl _ w4) n7))
        clear cm S4 P4
        generalize w4.drewN n7 = w7 at *
        have cl := segLen_calls P7.out.seg
        dsimp only at cl
        go_wp2_with fail
        refine cl.mono ?_
        rintro e w' ⟨rfl, rfl⟩
        have cl := stlen_is (n := (m : Int)) S7.out.st (by have := HRL.out; omega) (by have := HFL.out; omega) (by rw [HFL.out])
        have F := Lib.hid (show TrueRet5 W (.returned (.bool true)) w7 from ⟨rfl, by rw [HB.out]; exact S7.out.bel⟩)
        clear S7 P7
        go_wp2_with fail
        refine cl.mono ?_
        rintro e w' ⟨rfl, rfl⟩
        go_wp2_with fail
        go_ret
        exact F.out
end Go.Proofs.Ytepkmhcchmladaa
