/- BestAgain, walked. -/
import Derived.Test.YtcecndjkfdaaaaaBs12
import Derived.Test.YtcecndjkfdaaaaaBs14
namespace Go.Proofs.Ytcecndjkfdaaaaa
open Go.RowKit Go.Maps
set_option linter.unusedVariables false
set_option linter.unusedSimpArgs false

/-- What lies from L to E stays while only blocks outside turn. -/
def Off (L E : Nat) (N : Nat → Prop) : Prop := ∀ k, N k → k < L ∨ E ≤ k
theorem Later.step {L : Nat} {W1 X X' : World} {M : Nat → Prop} (h : Later L W1 X) (hk : Keeps M X X') (hM : Off L W1.heap.size M) : Later L W1 X' :=
  ⟨Nat.le_trans h.1 hk.size, fun k h1 h2 => (hk.block k (Nat.lt_of_lt_of_le h2 h.1) (fun hm => by rcases hM k hm with h3 | h3 <;> omega)).trans (h.2 k h1 h2)⟩
theorem Later.below {L : Nat} {W1 X X' : World} (h : Later L W1 X) (hb : Below X.heap.size X X') : Later L W1 X' := h.step (M := fun _ => False) (Keeps.of_below hb) (fun k h => h.elim)
theorem Off.more {L E S : Nat} {N N' : Nat → Prop} (h : Off L E N) (hE : E ≤ S) (hn : ∀ k, N' k → N k ∨ S ≤ k) : Off L E N' := fun k hk => by
  rcases hn k hk with h1 | h1
  · exact h k h1
  · exact .inr (by omega)
theorem BB.more {B : Nat} {w W W' : World} {N N' : Nat → Prop} {g wd : Nat} {great : Bool} {es es' : List Ent} (h : BB B w W N g wd great es) (hb : Bst N' W' g wd great es') (hn : ∀ k, N' k → N k ∨ W.heap.size ≤ k) (hk : Keeps N W W') : BB B w W' N' g wd great es' :=
  ⟨hb, fun k hk => by
    rcases hn k hk with hk | hk
    · exact h.low k hk
    · exact Nat.le_trans h.sz hk, h.bel.trans (hk.below h.sz h.low), Nat.le_trans h.sz hk.size⟩
theorem rel_range {A : List RV} (h : ∀ x ∈ A, InRange x.2.1) (n : Int) (k : Nat) : ∀ r ∈ relOf n (A.map (·.2.1)), InRange (r.take k) := fun r hr => by
  obtain ⟨h1, _⟩ := (mem_rel _ _ _).1 hr
  obtain ⟨x, hx, rfl⟩ := List.mem_map.1 h1
  exact fun z hz => h x hx z (List.mem_of_mem_take hz)
theorem rowE_take {wd : Nat} {es : List Ent} (hok : OkE wd es) {rs : List (List Int)} (h : ∀ r ∈ rs, ∃ e ∈ es, r = rowE e) : ∀ r ∈ rs, InRange (r.take wd) := fun r hr => by
  obtain ⟨e, he, rfl⟩ := h r hr
  have : (rowE e).take wd = e.1 := by rw [← hok.len e he]; simp [rowE]
  rw [this]; exact hok.rng e he
theorem rel_nil (n : Int) : relOf n [] = [] := rfl
theorem better_asym {g : Bool} {x y : Int} (h : betterB g x y = true) : betterB g y x = false := by
  rcases better_cases g with ⟨_, hb⟩ | ⟨_, hb⟩
  · simp only [hb, decide_eq_true_eq, decide_eq_false_iff_not] at *; omega
  · simp only [hb, decide_eq_true_eq, decide_eq_false_iff_not] at *; omega
theorem list2 {xs : List Int} (h : xs.length = 2) : ∃ x y, xs = [x, y] := by
  match xs, h with
  | [x, y], _ => exact ⟨x, y, rfl⟩
theorem nn_more {N : Nat → Prop} {S E : Nat} : ∀ k, NN N S E k → N k ∨ S ≤ k := fun k h => by
  rcases h with h | h
  · exact .inl h
  · exact .inr h.1
set_option maxRecDepth 100000 in
set_option maxHeartbeats 8000000 in
theorem bestAgain_walk {w : World} {a : Option Addr} {A : List RV} (great : Bool) (cap : Nat) (worse : Int) (hargs : BArgs w a A) :
    Calls Try.prog 11 #[.bool great, .slice a A.length cap, .int .i64 worse] w (TrueRet5 w) := by
  obtain ⟨B, hB⟩ : ∃ B, w.heap.size = B := ⟨_, rfl⟩
  have HB := Lib.hid hB
  have HN := Lib.hid hargs.1
  have RG : Hid (∀ r ∈ relOf ((2 + 1 : Nat) : Int) (A.map (·.2.1)), InRange (r.take 2)) := Lib.hid (rel_range hargs.2 _ 2)
  have AR : Hid (∀ W, Below B w W → RRow W a A) := Lib.hid (fun W hb => hargs.1.1.belowB hB hb)
  clear hB hargs
  go_enter Try.func11, Try.ntmps11
  go_wp2_with fail
  refine (head10_calls w).mono ?_
  rintro e W1 ⟨rfl, hb1⟩
  have B1 : Hid (Below B w W1) := Lib.hid (by rw [HB.out] at hb1; exact hb1)
  clear hb1
  go_wp2_with fail
  have cf := few_w (W := W1) cap HN.out HB.out B1.out
  cases hf : fewB A
  · rw [hf] at cf
    refine cf.mono ?_
    rintro e w' ⟨rfl, rfl⟩
    clear cf
    go_wp2_with fail
    go_ret
    exact ⟨rfl, by rw [HB.out]; exact B1.out⟩
  · rw [hf] at cf
    refine cf.mono ?_
    rintro e w' ⟨rfl, rfl⟩
    obtain ⟨hAl, hA8⟩ := few_ok hf
    have HA8 : Hid (∀ x ∈ A, x.2.1.length ≤ 1000000) := Lib.hid (fun x hx => by have := hA8 x hx; omega)
    clear cf hf hA8
    have hrl : (relOf ((2 + 1 : Nat) : Int) (A.map (·.2.1))).length ≤ 60 := by have h8 := rel_len ((2 + 1 : Nat) : Int) (A.map (·.2.1)); rw [List.length_map] at h8; omega
    have hBW1 : B ≤ W1.heap.size := by have := B1.out.size; rw [HB.out] at this; exact this
    have cn : Calls Try.prog 26 #[.int .i64 2, .bool great] W1 _ := new_calls ((2 : Nat) : Int) great W1
    have H2 := Lib.hid (BB.new B1.out hBW1 2 great)
    go_wp2_with fail
    refine cn.mono ?_
    rintro e w' ⟨rfl, rfl⟩
    clear cn
    obtain ⟨g, hg⟩ : ∃ g, W1.heap.size = g := ⟨_, rfl⟩
    rw [hg] at H2 ⊢
    clear hg hBW1
    generalize World.alloc W1 _ = W2 at *
    generalize (fun k => k = g) = N2 at *
    have cm := make_later 3 a cap A W2 (AR.out W2 H2.out.bel) (by omega) (by omega) HA8.out
    rw [show ((3 : Nat) : Int) = ((2 + 1 : Nat) : Int) from rfl] at cm
    obtain ⟨rsA, hrsA⟩ : ∃ rs, relOf ((2 + 1 : Nat) : Int) (A.map (·.2.1)) = rs := ⟨_, rfl⟩
    rw [hrsA] at cm hrl RG
    have HRS := Lib.hid hrsA
    clear hrsA
    go_wp2_with fail
    refine cm.mono ?_
    rintro e W3 ⟨p1, rfl, hl3, hb3⟩
    have H3 := Lib.hid (H2.out.next hb3)
    have BI : Hid (foldE great (foldE great [] (rsA.map (entR 2))) (rsA.map (entR 2)) = foldE great [] (rsA.map (entR 2))) := Lib.hid (fold_again _ _)
    have EL : Hid ((foldE great [] (rsA.map (entR 2))).length ≤ 60) := Lib.hid (by have h8 := fold_len great [] (rsA.map (entR 2)); simp at h8; omega)
    obtain ⟨es, hes⟩ : ∃ es, foldE great [] (rsA.map (entR 2)) = es := ⟨_, rfl⟩
    rw [hes] at BI EL
    have hel := EL.out
    have ca := badd3_calls H3.out.b (p := p1) (rs := rsA) (fun W hk => hl3 W ((Later.refl _ _).step hk (fun k hk => by
      rcases hk with hk | hk
      · exact .inl (H2.out.b.lt k hk)
      · exact .inr hk))) RG.out (by omega) (by omega) (by simp; omega) hes (by rw [news_nil])
    clear cm hl3 hb3 H2
    clear hes EL
    go_wp2_with fail
    refine ca.mono ?_
    rintro e W4 ⟨p2, L4, N4, rfl, hL1, hL2, hl4, hb4, hn4, hk4⟩
    have H4 := Lib.hid (H3.out.more hb4 (fun k hk => (hn4 k hk).1) hk4)
    have G2 : Hid (∀ W, Later L4 W4 W → Seg W p2 (2 + 1) (relOf ((2 + 1 : Nat) : Int) (es.map rowE))) := Lib.hid hl4
    have O2 : Hid (Off L4 W4.heap.size N4) := Lib.hid (fun k hk => .inl (hn4 k hk).2)
    have T2 : Hid (Later L4 W4 W4) := Lib.hid (Later.refl _ _)
    have OK := Lib.hid H4.out.b.ok
    have RL : Hid ((relOf ((2 + 1 : Nat) : Int) (es.map rowE)).length ≤ 60) := Lib.hid (by have h8 := rel_len ((2 + 1 : Nat) : Int) (es.map rowE); rw [List.length_map] at h8; omega)
    have RR : Hid (∀ r ∈ relOf ((2 + 1 : Nat) : Int) (es.map rowE), ∃ e ∈ es, r = rowE e) := Lib.hid (fun r hr => by
      obtain ⟨e, he, h⟩ := List.mem_map.1 ((rows_mem OK.out r).1 hr)
      exact ⟨e, he, h.symm⟩)
    clear ca hL1 hL2 hl4 hb4 hn4 hk4 H3
    have cs := bseg_calls H4.out.b (by omega) (by omega)
    go_wp2_with fail
    refine cs.mono ?_
    rintro e W5 ⟨p3, rfl, hl5, hb5⟩
    have H5 := Lib.hid (H4.out.next hb5)
    have T2a := Lib.hid (T2.out.below hb5)
    have G3 : Hid (∀ W, Later W4.heap.size W5 W → Seg W p3 (2 + 1) (relOf ((2 + 1 : Nat) : Int) (es.map rowE))) := Lib.hid hl5
    have O3 : Hid (Off W4.heap.size W5.heap.size N4) := Lib.hid (fun k hk => .inl (H4.out.b.lt k hk))
    have T3 : Hid (Later W4.heap.size W5 W5) := Lib.hid (Later.refl _ _)
    have S45 := Lib.hid hb5.size
    clear cs hl5 hb5 T2 H4
    -- again
    have cm := make_later 3 a cap A W5 (AR.out W5 H5.out.bel) (by omega) (by omega) HA8.out
    rw [show ((3 : Nat) : Int) = ((2 + 1 : Nat) : Int) from rfl, HRS.out] at cm
    go_wp2_with fail
    refine cm.mono ?_
    rintro e W6 ⟨p4, rfl, hl6, hb6⟩
    have H6 := Lib.hid (H5.out.next hb6)
    have T2b := Lib.hid (T2a.out.below hb6)
    have T3b := Lib.hid (T3.out.below hb6)
    have S56 := Lib.hid hb6.size
    have ca := badd3_calls H6.out.b (p := p4) (rs := rsA) (fun W hk => hl6 W ((Later.refl _ _).step hk (fun k hk => by
      rcases hk with hk | hk
      · exact .inl (H5.out.b.lt k hk)
      · exact .inr hk))) RG.out (by omega) (by omega) (by omega) BI.out (by rw [news_self OK.out.dist, List.map_nil, rel_nil])
    clear cm hl6 hb6 H5 T2a T3
    go_wp2_with fail
    refine ca.mono ?_
    rintro e W7 ⟨p5, L7, N7, rfl, hL1, hL2, hl7, hb7, hn7, hk7⟩
    have H7 := Lib.hid (H6.out.more hb7 (fun k hk => (hn7 k hk).1) hk7)
    have T2c := Lib.hid (T2b.out.step hk7 O2.out)
    have T3c := Lib.hid (T3b.out.step hk7 O3.out)
    have O2c : Hid (Off L4 W4.heap.size N7) := Lib.hid (O2.out.more (by have := S45.out; have := S56.out; omega) (fun k hk => (hn7 k hk).1))
    have O3c : Hid (Off W4.heap.size W5.heap.size N7) := Lib.hid (O3.out.more S56.out (fun k hk => (hn7 k hk).1))
    have G5 : Hid (∀ W, Later L7 W7 W → Seg W p5 (2 + 1) []) := Lib.hid hl7
    have O5 : Hid (Off L7 W7.heap.size N7) := Lib.hid (fun k hk => .inl (hn7 k hk).2)
    have S67 := Lib.hid hk7.size
    clear ca hL1 hL2 hl7 hb7 hn7 hk7 H6 T2b T3b O2 O3
    -- own
    have ca := badd3_calls H7.out.b (p := p3) (rs := relOf ((2 + 1 : Nat) : Int) (es.map rowE)) (fun W hk => G3.out W (T3c.out.step hk (fun k hk => by
      rcases hk with hk | hk
      · exact O3c.out k hk
      · exact .inr (by have := S56.out; have := S67.out; omega)))) (rowE_take OK.out RR.out) (by omega) (by have := RL.out; omega) (by have := RL.out; omega) (fold_own great OK.out) (by rw [news_self OK.out.dist, List.map_nil, rel_nil])
    obtain ⟨R, hR⟩ : ∃ R, relOf ((2 + 1 : Nat) : Int) (es.map rowE) = R := ⟨_, rfl⟩
    have HRE := Lib.hid hR
    rw [hR] at G2 G3 RL RR
    clear hR
    go_wp2_with fail
    refine ca.mono ?_
    rintro e W8 ⟨p6, L8, N8, rfl, hL1, hL2, hl8, hb8, hn8, hk8⟩
    have H8 := Lib.hid (H7.out.more hb8 (fun k hk => (hn8 k hk).1) hk8)
    have T2d := Lib.hid (T2c.out.step hk8 O2c.out)
    have T3d := Lib.hid (T3c.out.step hk8 O3c.out)
    have O3d : Hid (Off W4.heap.size W5.heap.size N8) := Lib.hid (O3c.out.more (by have := S56.out; have := S67.out; omega) (fun k hk => (hn8 k hk).1))
    have s5 := G5.out W8 ((Later.refl _ _).step hk8 O5.out)
    have s6 := hl8 W8 (Later.refl _ _)
    have c5 := segLen_calls s5
    have c6 := segLen_calls s6
    have S78 := Lib.hid hk8.size
    clear ca hL1 hL2 hl8 hb8 hn8 hk8 s5 s6 H7 T2c T3c O2c O3c G5 O5
    go_wp2_with fail
    refine c5.mono ?_
    rintro e w' ⟨rfl, rfl⟩
    go_wp2_with fail
    refine c6.mono ?_
    rintro e w' ⟨rfl, rfl⟩
    clear c5 c6
    have cs := bseg_calls H8.out.b (by omega) (by omega)
    rw [HRE.out] at cs
    go_wp2_with fail
    refine cs.mono ?_
    rintro e W9 ⟨p7, rfl, hl9, hb9⟩
    have H9 := Lib.hid (H8.out.next hb9)
    have T2e := Lib.hid (T2d.out.below hb9)
    have T3e := Lib.hid (T3d.out.below hb9)
    have sm := segSame_calls (hl9 W9 (Later.refl _ _)) (G3.out W9 T3e.out) (by have := RL.out; omega) (by have := RL.out; omega) (by omega) (by omega)
    rw [show decide (R = R) = true by simp] at sm
    clear cs hl9 hb9 H8 T2d T3d
    go_wp2_with fail
    refine sm.mono ?_
    rintro e w9 ⟨rfl, q9, rfl⟩
    have bq := below_drewN (Below.refl W9.heap.size W9) q9
    have H10 := Lib.hid (H9.out.next bq)
    have T2f := Lib.hid (T2e.out.below bq)
    have T3f := Lib.hid (T3e.out.below bq)
    clear sm bq H9 T2e T3e
    generalize W9.drewN q9 = W10 at *
    have sm := segSame_calls (G2.out W10 T2f.out) (G3.out W10 T3f.out) (by have := RL.out; omega) (by have := RL.out; omega) (by omega) (by omega)
    rw [show decide (R = R) = true by simp] at sm
    go_wp2_with fail
    refine sm.mono ?_
    rintro e w9 ⟨rfl, q10, rfl⟩
    have bq := below_drewN (Below.refl W10.heap.size W10) q10
    have H11 := Lib.hid (H10.out.next bq)
    have T3g := Lib.hid (T3f.out.below bq)
    clear sm bq H10 T2f T3f
    generalize W10.drewN q10 = W11 at *
    have hrl2 := RL.out
    go_wp2_with fail
    go_loopw [12] (fun s wr => ∃ (i : Nat) (N : Nat → Prop), i ≤ R.length ∧ s = .int .i64 i ∧ Hid (BB B w wr N g 2 great es) ∧ Hid (Later W4.heap.size W5 wr) ∧ Hid (Off W4.heap.size W5.heap.size N)) (fun s _ => R.length - (intOf s).toNat)
    case atStart => exact ⟨0, N8, Nat.zero_le _, rfl, H11, T3g, O3d⟩
    case round =>
      obtain ⟨i, N, hi, rfl, HX, TX, OX⟩ := hrel
      obtain ⟨X, rfl⟩ : ∃ x, x = wr := ⟨wr, rfl⟩
      have sg := Lib.hid (G3.out X TX.out)
      go_wp2_with fail
      refine (segLen_calls sg.out).mono ?_
      rintro e w' ⟨rfl, rfl⟩
      by_cases hlt : i < R.length
      · have cr := segRow_calls sg.out i hlt (by omega) (by omega)
        obtain ⟨e9, he9, hre⟩ := RR.out _ (rowAt_mem hlt)
        obtain ⟨k9, d9⟩ := e9
        have hk2 : k9.length = 2 := OK.out.len _ he9
        have hkr : InRange k9 := OK.out.rng _ he9
        have LK : Hid (lookE es k9 = some d9) := Lib.hid ((mem_look OK.out.dist k9 d9).1 he9)
        obtain ⟨x0, x1, hx01⟩ := list2 hk2
        subst hx01
        have hre2 : rowAt R i = [x0, x1, d9] := hre
        rw [hre2] at cr
        have KR := Lib.hid hkr
        have cb := better_law great d9 worse
        clear hre hre2 he9 hk2 hkr
        go_wp2_with fail
        refine cr.mono ?_
        rintro e Y ⟨ra, rc, rfl, hr, hrcap, hb⟩
        have HY := Lib.hid (HX.out.next hb)
        have TY := Lib.hid (TX.out.below hb)
        obtain ⟨rb, ro, hra, hrl3, hrc, hr2⟩ := row_three hr
        subst hra
        have R2 := Lib.hid hr2
        simp only [List.length_cons, List.length_nil, Nat.zero_add, Nat.reduceAdd] at hrcap ⊢
        have qc2 : (2 : Int) ≤ (rc : Int) := by omega
        have qc3 : ¬ rc = 0 := by omega
        have XY := Lib.hid hb.size
        clear cr hr hb hr2
        go_wp2_with fail
        refine (cb Y).mono ?_
        rintro e w' ⟨rfl, rfl⟩
        cases hbw : betterB great d9 worse
        · go_wp2_with fail
          go_roundw
          case rel => exact ⟨i + 1, N, by omega, by go_num, HY, TY, OX⟩
          case measure => simp [intOf]; omega
        · have cp := bput2_calls HY.out.b (some ⟨rb, ro, none⟩) rc [x0, x1] worse R2.out rfl KR.out (by omega) (by omega)
          have PB : Hid (putB great es [x0, x1] worse = false) := Lib.hid (by unfold putB; rw [LK.out]; exact better_asym hbw)
          have PE : Hid (putE great es [x0, x1] worse = es) := Lib.hid (put_false PB.out)
          clear hbw
          go_wp2_with fail
          refine cp.mono ?_
          rintro e Z ⟨rfl, hbz, hkz⟩
          rw [PB.out]
          rw [PE.out] at hbz
          have HZ := Lib.hid (HY.out.put hbz hkz)
          have TZ := Lib.hid (TY.out.step hkz OX.out)
          have OZ : Hid (Off W4.heap.size W5.heap.size (NN N Y.heap.size Z.heap.size)) := Lib.hid (OX.out.more TY.out.1 nn_more)
          clear cp hbz hkz
          go_wp2_with fail
          go_roundw
          case rel => exact ⟨i + 1, _, by omega, by go_num, HZ, TZ, OZ⟩
          case measure => simp [intOf]; omega
      · have tl : decide (i < R.length) = false := decide_eq_false hlt
        have cs := bseg_calls HX.out.b (by omega) (by omega)
        rw [HRE.out] at cs
        go_wp2_with fail
        refine cs.mono ?_
        rintro e Y ⟨p8, rfl, hl, hb⟩
        have HY := Lib.hid (HX.out.next hb)
        have sm := segSame_calls (hl Y (Later.refl _ _)) (G3.out Y (TX.out.below hb)) (by omega) (by omega) (by omega) (by omega)
        rw [show decide (R = R) = true by simp] at sm
        clear cs hl hb
        go_wp2_with fail
        refine sm.mono ?_
        rintro e w9 ⟨rfl, q11, rfl⟩
        clear sm
        go_wp2_with fail
        go_ret
        exact ⟨rfl, by rw [HB.out]; exact below_drewN HY.out.bel q11⟩
end Go.Proofs.Ytcecndjkfdaaaaa
