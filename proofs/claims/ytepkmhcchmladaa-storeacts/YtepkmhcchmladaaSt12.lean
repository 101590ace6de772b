import Derived.Test.YtepkmhcchmladaaSt11
/- StoreWidths walked. -/
namespace Go.Proofs.Ytepkmhcchmladaa
open Go.RowKit Go.Shelf Go.Maps
set_option linter.unusedVariables false
set_option linter.unusedSimpArgs false

theorem len_is {w : World} {p : Option Addr} {wd : Nat} {rs : List (List Int)} (h : Seg w p wd rs) {n : Int} (hn : (rs.length : Int) = n) : Calls Try.prog 12 #[.pointer p] w fun e w' => e = .returned (.int .i64 n) ∧ w = w' := by
  rw [← hn]; exact segLen_calls h
theorem stlen_is {N G : Nat → Prop} {w : World} {g wd : Nat} {most : Int} {runs : List (List (List Int))} {dl : List (List Int)} (h : StS N G w g wd most runs dl) (hn : runs.length ≤ 1000) (hT : runs.flatten.length ≤ 1000) {n : Int} (e : (runs.flatten.length : Int) = n) : Calls Try.prog 26 #[.pointer (some ⟨g, 0, none⟩)] w fun e w' => e = .returned (.int .i64 n) ∧ w = w' := by
  rw [← e]; exact stLen_calls h hn hT
theorem step1_flat (wd : Nat) (rs : List (List Int)) : (stepRuns wd 1 [] rs).flatten = rs ∧ (stepRuns wd 1 [] rs).length ≤ 1 := by
  unfold stepRuns
  by_cases h : rs = []
  · rw [if_pos h]; exact ⟨h.symm, by simp⟩
  · rw [if_neg h, if_neg (by simp)]; simp
theorem step_none (wd : Nat) (most : Int) (runs : List (List (List Int))) : stepRuns wd most runs [] = runs := by unfold stepRuns; rw [if_pos rfl]
set_option maxRecDepth 100000 in
set_option maxHeartbeats 4000000 in
theorem storeWidths_walk {W : World} (width : Int) {a : Option Addr} {A : List RV} (cap : Nat) (h : NestArgs W a A) (hr : ∀ x ∈ A, InRange x.2.1) (wide : Int) (hw : -9223372036854775808 ≤ width ∧ width ≤ 9223372036854775807) (hw2 : -9223372036854775808 ≤ wide ∧ wide ≤ 9223372036854775807) :
    Calls Try.prog 6 #[.int .i64 width, .slice a A.length cap, .int .i64 wide] W (TrueRet5 W) := by
  have hd := head11_calls W
  obtain ⟨B, hB⟩ : ∃ B, W.heap.size = B := ⟨_, rfl⟩
  have HB := Lib.hid hB
  have H := Lib.hid h
  have HR := Lib.hid hr
  obtain ⟨wd, hwd3, hwde⟩ := width4 width
  obtain ⟨we, hwe3, hwee⟩ := width4 wide
  clear h hr hB
  go_enter Try.func6, Try.ntmps6
  go_wp2_with fail
  refine hd.mono ?_
  rintro e w1 ⟨rfl, hb1⟩
  have B1 : Hid (Below B W w1) := Lib.hid (by rw [← HB.out]; exact hb1)
  have R1 : Hid (RRow w1 a A) := Lib.hid (H.out.1.below hb1)
  have cf := few_calls a cap A w1 R1.out H.out.2.1 H.out.2.2
  clear hd hb1
  cases hf : fewB A
  · rw [hf] at cf
    go_wp2_with fail
    refine cf.mono ?_
    rintro e w2 ⟨rfl, rfl⟩
    go_wp2_with fail
    go_ret
    exact ⟨rfl, by rw [HB.out]; exact B1.out⟩
  · rw [hf] at cf
    obtain ⟨hA, hAx⟩ := few_ok hf
    have HAX := Lib.hid hAx
    clear hf hAx
    go_wp2_with fail
    refine cf.mono ?_
    rintro e w2 ⟨rfl, rfl⟩
    go_wp2_with fail
    rw [hwde, hwee]
    clear hwde hwee cf
    refine (sbNew_calls wd 1 HB.out B1.out (by omega)).mono ?_
    rintro e w2 ⟨g, rfl, hsb, hb2⟩
    have S2 := Lib.hid hsb
    have cm := make_later we a cap A w2 (R1.out.below hb2) (by omega) (by omega) (fun x hx => by have := HAX.out x hx; omega)
    obtain ⟨rs, hrs⟩ : ∃ rs, relOf (we : Int) (A.map (·.2.1)) = rs := ⟨_, rfl⟩
    have RL : Hid (rs.length ≤ 60) := Lib.hid (by rw [← hrs]; have := rel_len (we : Int) (A.map (·.2.1)); rw [List.length_map] at this; omega)
    have RR : Hid (∀ x ∈ rs, InRange x) := Lib.hid (by
      rw [← hrs]
      refine rel_range (fun x hx => ?_)
      obtain ⟨y, hy, rfl⟩ := List.mem_map.1 hx
      exact HR.out y hy)
    rw [hrs] at cm
    clear hsb hb2 hrs HAX
    go_wp2_with fail
    refine cm.mono ?_
    rintro e w3 ⟨p, rfl, hl, hb3⟩
    have S3 := Lib.hid (S2.out.below hb3)
    have X3 := Lib.hid (S2.out.row hl)
    have cs := sbStep_calls S3.out (s := (p, rs)) X3.out (by omega) (by simp) (by simpa using Nat.le_trans RL.out (by decide)) RR.out
    clear hl hb3 cm S2
    by_cases hww : we = wd
    · subst hww
      have e1 : newR we [] we rs = rs := by unfold newR; rw [if_pos rfl]; exact minus_nil
      dsimp only at cs
      rw [e1] at cs
      obtain ⟨hf1, hf2⟩ := step1_flat we rs
      generalize stepRuns we 1 [] rs = R at *
      have HF := Lib.hid (And.intro hf1 hf2)
      have t1 : ((we : Int) != (we : Int)) = false := by simp
      have t2 : ((rs.length : Int) == (rs.length : Int)) = true := by simp
      clear hf1 hf2 e1
      go_wp2_with fail
      refine cs.mono ?_
      rintro e w4 ⟨rfl, N4, G4, h4, hq4⟩
      have S4 := Lib.hid h4
      have X4 := Lib.hid (hq4 _ _ X3.out)
      have cl := segLen_calls X4.out.seg
      clear h4 hq4 cs S3 X3
      go_wp2_with fail
      refine cl.mono ?_
      rintro e w' ⟨rfl, rfl⟩
      have cs : Calls Try.prog 21 #[.pointer (some ⟨g, 0, none⟩), .pointer p] w4 (SBRet B W G4 w4 g we 1 (.int .i64 0) R []) := by
        have := sbStep_calls S4.out (s := (p, rs)) X4.out (by omega) (by have := HF.out.2; omega) (by rw [HF.out.1]; have := RL.out; show rs.length + rs.length ≤ 1000; omega) RR.out
        have e2 : newR we R we rs = [] := by unfold newR; rw [if_pos rfl, HF.out.1]; exact minus_self
        dsimp only at this
        rw [e2, step_none] at this
        exact this
      clear cl
      go_wp2_with fail
      refine cs.mono ?_
      rintro e w5 ⟨rfl, N5, G5, h5, hq5⟩
      have S5 := Lib.hid h5
      have X5 := Lib.hid (hq5 _ _ X4.out)
      have cd := stDelta_calls S5.out.st
      clear h5 hq5 cs S4 X4
      go_wp2_with fail
      refine cd.mono ?_
      rintro e w' ⟨q, rfl, hq, rfl⟩
      have cl := len_is (n := 0) hq.seg rfl
      clear hq cd
      go_wp2_with fail
      refine cl.mono ?_
      rintro e w' ⟨rfl, rfl⟩
      have cfu := stFull_calls S5.out.st (by omega) (by have := HF.out.2; omega) (by rw [HF.out.1]; have := RL.out; omega)
      rw [HF.out.1, sorted_rel X5.out.seg.1 X5.out.seg.2.1] at cfu
      clear cl
      go_wp2_with fail
      refine cfu.mono ?_
      rintro e w6 ⟨q6, rfl, hq6, hb6⟩
      have S6 := Lib.hid (S5.out.below hb6)
      have X6 := Lib.hid (X5.out.below hb6)
      have cm := same_calls hq6.seg X6.out.seg (by have := RL.out; show rs.length ≤ 1000000; omega) (by have := RL.out; show rs.length ≤ 1000000; omega) (by omega) (by omega)
      rw [decide_eq_true rfl] at cm
      clear hq6 hb6 S5 X5 cfu X6
      go_wp2_with fail
      refine cm.mono ?_
      rintro e w7 ⟨rfl, n7, rfl⟩
      have S7 := Lib.hid (S6.out.below (below_drewN (Below.refl _ w6) n7))
      clear cm S6
      generalize w6.drewN n7 = w7 at *
      have cs : Calls Try.prog 21 #[.pointer (some ⟨g, 0, none⟩), .pointer none] w7 (SBRet B W G5 w7 g we 1 (.int .i64 0) R []) := by
        have := sbStep_calls S7.out (s := (none, [])) (SegN.none G5 w7 S7.out.st.lt) (by omega) (by have := HF.out.2; omega) (by rw [HF.out.1]; have := RL.out; show rs.length + 0 ≤ 1000; omega) (fun x hx => by cases hx)
        have e2 : newR we R 0 [] = [] := by unfold newR; split <;> rfl
        dsimp only at this
        rw [e2, step_none] at this
        exact this
      go_wp2_with fail
      refine cs.mono ?_
      rintro e w8 ⟨rfl, N8, G8, h8, _⟩
      have F := Lib.hid (show TrueRet5 W (.returned (.bool true)) w8 from ⟨rfl, by rw [HB.out]; exact h8.bel⟩)
      clear h8 cs S7
      go_wp2_with fail
      go_ret
      exact F.out
    · have t1 : ((we : Int) != (wd : Int)) = true := by simp; omega
      have cs : Calls Try.prog 21 #[.pointer (some ⟨g, 0, none⟩), .pointer p] w3 (SBRet B W (fun b => False ∨ b = g) w3 g wd 1 (.int .i64 0) [] []) := by
        have e2 : newR wd [] we rs = [] := by unfold newR; rw [if_neg hww]; rfl
        dsimp only at cs
        rw [e2, step_none] at cs
        exact cs
      clear hww
      go_wp2_with fail
      refine cs.mono ?_
      rintro e w4 ⟨rfl, N4, G4, h4, _⟩
      have S4 := Lib.hid h4
      have cl := stlen_is (n := 0) S4.out.st (by simp) (by simp) rfl
      clear h4 cs S3 X3
      go_wp2_with fail
      refine cl.mono ?_
      rintro e w' ⟨rfl, rfl⟩
      have cfu := stFull_calls S4.out.st (by omega) (by simp) (by simp)
      clear cl
      go_wp2_with fail
      refine cfu.mono ?_
      rintro e w6 ⟨q6, rfl, hq6, hb6⟩
      have S6 := Lib.hid (S4.out.below hb6)
      have cl := len_is (n := 0) hq6.seg rfl
      clear hq6 hb6 S4 cfu
      go_wp2_with fail
      refine cl.mono ?_
      rintro e w' ⟨rfl, rfl⟩
      have cd := stDelta_calls S6.out.st
      clear cl
      go_wp2_with fail
      refine cd.mono ?_
      rintro e w' ⟨q, rfl, hq, rfl⟩
      have cl := len_is (n := 0) hq.seg rfl
      clear hq cd
      go_wp2_with fail
      refine cl.mono ?_
      rintro e w' ⟨rfl, rfl⟩
      have F := Lib.hid (show TrueRet5 W (.returned (.bool true)) w6 from ⟨rfl, by rw [HB.out]; exact S6.out.bel⟩)
      clear cl S6
      go_wp2_with fail
      go_ret
      exact F.out
end Go.Proofs.Ytepkmhcchmladaa
