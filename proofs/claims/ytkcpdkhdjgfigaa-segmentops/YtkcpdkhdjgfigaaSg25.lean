/- The walk of SegmentOps. Written by mksg25.py. -/
import Derived.Test.YtkcpdkhdjgfigaaSg24
import Derived.Maps.AppendAt
namespace Go.Proofs.Ytkcpdkhdjgfigaa
open Go.RowKit
set_option linter.unusedVariables false
set_option linter.unusedSimpArgs false

/-- A sorted list of few rows in memory. -/
def SO (w : World) (g : Nat) (L : List RV) (X : List (List Int)) : Prop := RRow w (some ⟨g, 0, none⟩) L ∧ L.map (·.2.1) = X ∧ L.length ≤ 120 ∧ ∀ x ∈ L, x.2.1.length ≤ 8
theorem SO.below {w w' : World} {g : Nat} {L : List RV} {X : List (List Int)} (h : SO w g L X) (hb : Below w.heap.size w w') : SO w' g L X := ⟨h.1.below hb, h.2⟩
theorem SO.drewN {w : World} {g : Nat} {L : List RV} {X : List (List Int)} (h : SO w g L X) (q : Nat) : SO (w.drewN q) g L X := ⟨h.1.drewN q, h.2⟩
def SORet (w : World) (X : List (List Int)) (e : Ending) (w' : World) : Prop := ∃ g c L, e = .returned (.slice (some ⟨g, 0, none⟩) L.length c) ∧ SO w' g L X ∧ Below w.heap.size w w'
theorem sort_w {W : World} {a : Option Addr} {A : List RV} (cap wd : Nat) (h : RRow W a A) (hl : A.length ≤ 120) (h8 : ∀ x ∈ A, x.2.1.length ≤ 8) (hwd : wd ≤ 1000) : Calls Try.prog 14 #[.int .i64 wd, .slice a A.length cap] W (SORet W (relOf wd (A.map (·.2.1)))) :=
  (sorted_calls2 wd a cap A W h hwd (by omega) (fun x hx => by have := h8 x hx; omega)).mono fun e w' ⟨g, c, L, h1, h2, h3, h4, h5⟩ => ⟨g, c, L, h1, ⟨h3, h2, by have := congrArg List.length h2; have := rel_len wd (A.map (·.2.1)); simp at *; omega, fun x hx => h8 x (h4 x hx)⟩, h5⟩
theorem add_eq (b off j : Nat) : (⟨b, off, none⟩ : Addr).add j = ⟨b, off + j, none⟩ := by
  unfold Addr.add
  split
  · rename_i h; rw [h]; rfl
  · rfl
/-- The cells of a list of rows in memory, as what is appended. -/
theorem rrow_news {w : World} {g : Nat} {L : List RV} (h : RRow w (some ⟨g, 0, none⟩) L) : ∀ j u, (L.map encV)[j]? = some u → w.cell? ((⟨g, 0, none⟩ : Addr).add j) = some u := by
  intro j u hj
  rw [List.getElem?_map] at hj
  cases hc : L[j]? with
  | none => rw [hc] at hj; cases hj
  | some x =>
    rw [hc] at hj
    obtain ⟨hl, rfl⟩ := List.getElem?_eq_some_iff.1 hc
    rcases h.1 with h0 | ⟨b, off, hb, _, hcell⟩
    · rw [h0] at hl; simp at hl
    · cases hb
      have := hcell j hl
      rw [atV_eq hl] at this
      simp only [Option.map_some, Option.some.injEq] at hj
      rw [← hj]
      rw [add_eq, Nat.zero_add]; rw [Nat.zero_add] at this; exact this
theorem enc_one (L : List RV) : ∀ u ∈ L.map encV, u.oneCell' = true := by
  intro u hu
  obtain ⟨x, _, rfl⟩ := List.mem_map.1 hu
  rfl
theorem Two.alloc {B : Nat} {w : World} {v v' : Value} {L L' : List RV} (h : Two B w v v' L L') (o : Obj) : Two B (w.alloc o) v v' L L' := ⟨h.one.alloc o, h.two.alloc o, h.apart⟩
set_option maxRecDepth 100000 in
set_option maxHeartbeats 4000000 in
theorem ops_few1 (width : Int) (a b : Option Addr) (ca cb : Nat) (A1 A2 : List RV) (w : World) (h1 : NestArgs w a A1) (h2 : NestArgs w b A2) (hf1 : fewB A1 = false) :
    Calls Try.prog 4 #[.int .i64 width, .slice a A1.length ca, .slice b A2.length cb] w (TrueRet5 w) := by
  obtain ⟨B, hB⟩ : ∃ B, w.heap.size = B := ⟨_, rfl⟩
  have HB := Lib.hid hB
  have H1 := Lib.hid h1
  have H2 := Lib.hid h2
  clear h1 h2 hB
  go_enter Try.func4, Try.ntmps4
  go_wp2_with fail
  refine (head5_calls _).mono ?_
  rintro e wh ⟨rfl, hbh⟩
  rw [HB.out] at hbh
  have BH := Lib.hid hbh
  clear hbh
  have cf1 := few_w ca H1.out HB.out BH.out
  rw [hf1] at cf1
  go_wp2_with fail
  refine cf1.mono ?_
  rintro e w' ⟨rfl, rfl⟩
  clear cf1
  go_wp2_with fail
  go_ret
  exact ⟨rfl, by rw [HB.out]; exact BH.out⟩
set_option maxRecDepth 100000 in
set_option maxHeartbeats 4000000 in
theorem ops_few2 (width : Int) (a b : Option Addr) (ca cb : Nat) (A1 A2 : List RV) (w : World) (h1 : NestArgs w a A1) (h2 : NestArgs w b A2) (hf1 : fewB A1 = true) (hf2 : fewB A2 = false) :
    Calls Try.prog 4 #[.int .i64 width, .slice a A1.length ca, .slice b A2.length cb] w (TrueRet5 w) := by
  obtain ⟨B, hB⟩ : ∃ B, w.heap.size = B := ⟨_, rfl⟩
  have HB := Lib.hid hB
  have H1 := Lib.hid h1
  have H2 := Lib.hid h2
  clear h1 h2 hB
  go_enter Try.func4, Try.ntmps4
  go_wp2_with fail
  refine (head5_calls _).mono ?_
  rintro e wh ⟨rfl, hbh⟩
  rw [HB.out] at hbh
  have BH := Lib.hid hbh
  clear hbh
  have cf1 := few_w ca H1.out HB.out BH.out
  rw [hf1] at cf1
  go_wp2_with fail
  refine cf1.mono ?_
  rintro e w' ⟨rfl, rfl⟩
  clear cf1
  have cf2 := few_w cb H2.out HB.out BH.out
  rw [hf2] at cf2
  go_wp2_with fail
  refine cf2.mono ?_
  rintro e w' ⟨rfl, rfl⟩
  clear cf2
  go_wp2_with fail
  go_ret
  exact ⟨rfl, by rw [HB.out]; exact BH.out⟩
set_option maxRecDepth 100000 in
set_option maxHeartbeats 4000000 in
theorem ops_full (width : Int) (a b : Option Addr) (ca cb : Nat) (A1 A2 : List RV) (w : World) (h1 : NestArgs w a A1) (h2 : NestArgs w b A2) (hf1 : fewB A1 = true) (hf2 : fewB A2 = true) :
    Calls Try.prog 4 #[.int .i64 width, .slice a A1.length ca, .slice b A2.length cb] w (TrueRet5 w) := by
  obtain ⟨B, hB⟩ : ∃ B, w.heap.size = B := ⟨_, rfl⟩
  have HB := Lib.hid hB
  have H1 := Lib.hid h1
  have H2 := Lib.hid h2
  obtain ⟨i0, hi, hz0, hz1, hz2⟩ := info_parts info23
  have I := Lib.hid hi
  have Z0 := Lib.hid hz0
  have Z1 := Lib.hid hz1
  have Z2 := Lib.hid hz2
  clear hi hz0 hz1 hz2
  have F1 := Lib.hid (few_ok hf1)
  have F2 := Lib.hid (few_ok hf2)
  obtain ⟨wd, hwd4, hwd⟩ := width5 width
  have HWD := Lib.hid hwd
  have hwd1 : wd ≤ 1000 := by omega
  clear h1 h2 hB hwd
  go_enter Try.func4, Try.ntmps4
  go_wp2_with fail
  refine (head5_calls _).mono ?_
  rintro e W0 ⟨rfl, hbh⟩
  rw [HB.out] at hbh
  have BH := Lib.hid hbh
  clear hbh
  have cf1 := few_w ca H1.out HB.out BH.out
  rw [hf1] at cf1
  go_wp2_with fail
  refine cf1.mono ?_
  rintro e w' ⟨rfl, rfl⟩
  clear cf1
  have cf2 := few_w cb H2.out HB.out BH.out
  rw [hf2] at cf2
  go_wp2_with fail
  refine cf2.mono ?_
  rintro e w' ⟨rfl, rfl⟩
  clear cf2
  have BW0 := BH
  clear BH hf1 hf2
  go_wp2_with fail
  rw [HWD.out]
  refine (sort_w ca wd (H1.out.1.belowB HB.out BW0.out) (by have := F1.out.1; omega) F1.out.2 hwd1).mono ?_
  rintro e W1 ⟨g1, c1, L1, rfl, hs, hb⟩
  have BW1 := Lib.hid (BW0.out.trans (hb.mono (show B ≤ W0.heap.size by have := BW0.out.size; rw [HB.out] at this; exact this)))
  have O1 := Lib.hid hs
  clear hb BW0 hs
  go_wp2_with fail
  refine (sort_w cb wd (H2.out.1.belowB HB.out BW1.out) (by have := F2.out.1; omega) F2.out.2 hwd1).mono ?_
  rintro e W2 ⟨g2, c2, L2, rfl, hs, hb⟩
  replace O1 := Lib.hid (O1.out.below hb)
  have BW2 := Lib.hid (BW1.out.trans (hb.mono (show B ≤ W1.heap.size by have := BW1.out.size; rw [HB.out] at this; exact this)))
  have O2 := Lib.hid hs
  clear hb BW1 hs
  go_wp2_with fail
  refine (make_w ca wd H1.out HB.out BW2.out F1.out hwd1).mono ?_
  rintro e W3 ⟨ps, rfl, hs, hb⟩
  replace O1 := Lib.hid (O1.out.below hb)
  replace O2 := Lib.hid (O2.out.below hb)
  have BW3 := Lib.hid (BW2.out.trans (hb.mono (show B ≤ W2.heap.size by have := BW2.out.size; rw [HB.out] at this; exact this)))
  have Ss := Lib.hid hs
  clear hb BW2 hs
  go_wp2_with fail
  refine (make_w cb wd H2.out HB.out BW3.out F2.out hwd1).mono ?_
  rintro e W4 ⟨pt, rfl, hs, hb⟩
  replace O1 := Lib.hid (O1.out.below hb)
  replace O2 := Lib.hid (O2.out.below hb)
  replace Ss := Lib.hid (Ss.out.below hb)
  have BW4 := Lib.hid (BW3.out.trans (hb.mono (show B ≤ W3.heap.size by have := BW3.out.size; rw [HB.out] at this; exact this)))
  have St := Lib.hid hs
  clear hb BW3 hs
  have QX := Lib.hid Ss.out.1.1
  have QY := Lib.hid St.out.1.1
  have QXW := Lib.hid Ss.out.1.2.1
  have QYW := Lib.hid St.out.1.2.1
  generalize relOf (wd : Int) (A1.map (·.2.1)) = X at *
  generalize relOf (wd : Int) (A2.map (·.2.1)) = Y at *
  go_wp2_with fail
  obtain ⟨C, hC⟩ : ∃ C, W4.heap.size = C := ⟨_, rfl⟩
  have HC := Lib.hid hC
  have T0 : Hid (Two C ((W4.alloc (.cells #[] 23)).alloc (.cells #[] 23)) (.slice (some ⟨W4.heap.size, 0, none⟩) 0 0) (.slice (some ⟨W4.heap.size + 1, 0, none⟩) 0 0) [] []) := Lib.hid ⟨(World.ownsRow_lit (base := C) (e := 23) (size := 1) W4 #[] 0 (Nat.le_of_eq hC.symm) (by decide) rfl).alloc _, (by have := World.ownsRow_lit (base := C) (e := 23) (size := 1) (W4.alloc (.cells #[] 23)) #[] 0 (by simp; omega) (by decide) rfl; simpa using this), fun b hb e => by simp [Value.ownBlock] at hb e; omega⟩
  have B0 : Hid (Below C W4 ((W4.alloc (.cells #[] 23)).alloc (.cells #[] 23))) := Lib.hid (((Below.refl _ _).alloc (Nat.le_of_eq hC.symm) _).alloc (by simp; omega) _)
  rw [hC] at T0 ⊢
  clear hC
  generalize World.alloc (World.alloc W4 _) _ = w5 at *
  have hL1 : L1.length ≤ 120 := O1.out.2.2.1
  have hL2 : L2.length ≤ 120 := O2.out.2.2.1
  generalize Value.slice (some ⟨C, 0, none⟩) 0 0 = v0 at *
  generalize Value.slice (some ⟨C + 1, 0, none⟩) 0 0 = v0' at *
  go_loopw [46, 11, 12] (fun s v v' wr => ∃ k : Nat, k ≤ L1.length ∧ s = .int .i64 k ∧ Hid (Two C wr v v' (pickV true Y (L1.take k)) (pickV false Y (L1.take k))) ∧ Hid (Below C W4 wr)) (fun s _ _ _ => L1.length - (intOf s).toNat)
  case atStart => exact ⟨0, Nat.zero_le _, rfl, T0, B0⟩
  case round =>
    obtain ⟨k, hk, rfl, HT, HW⟩ := hrel
    have hCr : C ≤ wr.heap.size := by have := HW.out.size; rw [HC.out] at this; exact this
    have hpt : (pickV true Y (L1.take k)).length ≤ 120 := by have := pickV_len true Y (L1.take k); simp at this; omega
    have hpf : (pickV false Y (L1.take k)).length ≤ 120 := by have := pickV_len false Y (L1.take k); simp at this; omega
    by_cases hlt : k < L1.length
    · obtain ⟨b, off, hbo, hb, hcell, hrow, _⟩ := (O1.out.1.belowB HC.out HW.out).at hlt
      cases hbo
      rw [Nat.zero_add] at hcell
      have M := atV_mem hlt
      have h8 := O1.out.2.2.2 _ M
      have ci := in_calls (some ⟨g2, 0, none⟩) c2 L2 (atV L1 k).1 (atV L1 k).2.2 (atV L1 k).2.1 wr (O2.out.1.belowB HC.out HW.out) hrow (by omega) (fun x hx => by have := O2.out.2.2.2 x hx; omega) (by omega)
      rw [O2.out.2.1] at ci
      have PT := Lib.hid (pickV_take (b := true) (ys := Y) hlt)
      have PF := Lib.hid (pickV_take (b := false) (ys := Y) hlt)
      obtain ⟨x, hx⟩ : ∃ x, atV L1 k = x := ⟨_, rfl⟩
      rw [hx] at hcell ci PT PF
      clear hx hrow M h8
      obtain ⟨xa, xz, xc⟩ := x
      simp only at hcell ci
      have q1 : (k : Int) < (L1.length : Int) := by omega
      have q2 : (0 : Int) ≤ (k : Int) := by omega
      by_cases hm : xz ∈ Y
      · rw [decide_eq_true hm] at ci
        have N1 : Hid (pickV true Y (L1.take (k + 1)) = pickV true Y (L1.take k) ++ [(xa, xz, xc)]) := Lib.hid (by rw [PT.out, if_pos (decide_eq_true hm)])
        have N2 : Hid (pickV false Y (L1.take (k + 1)) = pickV false Y (L1.take k)) := Lib.hid (by rw [PF.out, if_neg (by simp [hm])])
        clear hm
        go_wp2_with fail
        refine ci.mono ?_
        rintro e w6 ⟨rfl, q6, rfl⟩
        have T6 := Lib.hid (HT.out.drewN q6)
        clear ci
        go_wp2_with (first | (at_builtin; refine wpList_append_own_at _ rfl _ _ 22 rfl C 23 i0 (.slice none 0 0) 1 24 Try.underlying22 I.out Z0.out Z1.out Z2.out rfl (by decide) _ _ _ rfl (T6.out.alloc _).one ⟨wr.heap.size, 0, none⟩ 1 1 [.slice xa xz.length xc] rfl rfl ?tc1 ?tc2 ?tc3 ?tc4 ?tc5 ?_))
        case tc1 => exact cell_one_new (wr.drewN q6) _ _
        case tc2 => intro u hu; simp at hu; subst hu; rfl
        case tc3 => unfold maxLen; omega
        case tc4 => omega
        case tc5 => simp; omega
        intro v1 w7 hown hgrow _ hat
        have T7 := Lib.hid ((T6.out.alloc _).grow (M := pickV true Y (L1.take (k + 1))) (H := 0) (by rw [N1.out, List.map_append, List.length_append]; exact hown) hgrow (by simpa using hat))
        have B7 := Lib.hid (((below_drewN HW.out q6).alloc (by exact hCr) _).grown hgrow (by simp; omega) (fun b hb => ((T6.out.alloc (.cells #[.slice xa xz.length xc] 23)).one.lt b hb).1))
        rw [← N2.out] at T7
        clear hown hgrow hat hcell T6
        go_wp2_with fail
        go_roundw
        case rel => exact ⟨k + 1, by omega, by go_num, T7, B7⟩
        case measure => simp [intOf]; omega
      · rw [decide_eq_false hm] at ci
        have N1 : Hid (pickV false Y (L1.take (k + 1)) = pickV false Y (L1.take k) ++ [(xa, xz, xc)]) := Lib.hid (by rw [PF.out, if_pos (decide_eq_false hm)])
        have N2 : Hid (pickV true Y (L1.take (k + 1)) = pickV true Y (L1.take k)) := Lib.hid (by rw [PT.out, if_neg (by simp [hm])])
        clear hm
        go_wp2_with fail
        refine ci.mono ?_
        rintro e w6 ⟨rfl, q6, rfl⟩
        have T6 := Lib.hid ((HT.out.drewN q6).swap)
        clear ci
        go_wp2_with (first | (at_builtin; refine wpList_append_own_at _ rfl _ _ 22 rfl C 23 i0 (.slice none 0 0) 1 24 Try.underlying22 I.out Z0.out Z1.out Z2.out rfl (by decide) _ _ _ rfl (T6.out.alloc _).one ⟨wr.heap.size, 0, none⟩ 1 1 [.slice xa xz.length xc] rfl rfl ?fc1 ?fc2 ?fc3 ?fc4 ?fc5 ?_))
        case fc1 => exact cell_one_new (wr.drewN q6) _ _
        case fc2 => intro u hu; simp at hu; subst hu; rfl
        case fc3 => unfold maxLen; omega
        case fc4 => omega
        case fc5 => simp; omega
        intro v1 w7 hown hgrow _ hat
        have T7 := Lib.hid ((T6.out.alloc _).grow (M := pickV false Y (L1.take (k + 1))) (H := 0) (by rw [N1.out, List.map_append, List.length_append]; exact hown) hgrow (by simpa using hat))
        have B7 := Lib.hid (((below_drewN HW.out q6).alloc (by exact hCr) _).grown hgrow (by simp; omega) (fun b hb => ((T6.out.alloc (.cells #[.slice xa xz.length xc] 23)).one.lt b hb).1))
        rw [← N2.out] at T7
        clear hown hgrow hat hcell T6
        go_wp2_with fail
        go_roundw
        case rel => exact ⟨k + 1, by omega, by go_num, Lib.hid T7.out.swap, B7⟩
        case measure => simp [intOf]; omega
    · obtain rfl : k = L1.length := by omega
      rw [List.take_length] at HT
      clear hpt hpf hlt hk hCr T0 B0
      obtain ⟨W5, rfl⟩ : ∃ x, x = wr := ⟨wr, rfl⟩
      have hb : Below W4.heap.size W4 W5 := by rw [HC.out]; exact HW.out
      replace O1 := Lib.hid (O1.out.below hb)
      replace O2 := Lib.hid (O2.out.below hb)
      replace Ss := Lib.hid (Ss.out.below hb)
      replace St := Lib.hid (St.out.below hb)
      have BW5 := Lib.hid (BW4.out.trans (hb.mono (show B ≤ W4.heap.size by have := BW4.out.size; rw [HB.out] at this; exact this)))
      obtain ⟨gb, cb', hvb, hRB⟩ := rrow_of_owns HT.out.one (fun x hx => O1.out.1.2 x (pickV_sub hx))
      obtain ⟨gl, cl', hvl, hRL⟩ := rrow_of_owns HT.out.two (fun x hx => O1.out.1.2 x (pickV_sub hx))
      have EB : Hid ((pickV true Y L1).map (·.2.1) = andR X Y) := Lib.hid (by rw [pickV_map, flt_true, O1.out.2.1])
      have EL : Hid ((pickV false Y L1).map (·.2.1) = minusR X Y) := Lib.hid (by rw [pickV_map, flt_false, O1.out.2.1])
      have RB := Lib.hid hRB
      have RL := Lib.hid hRL
      clear hRB hRL hb BW4 HW HT
      subst hvb hvl
      generalize pickV true Y L1 = LB at *
      generalize pickV false Y L1 = LL at *
      have NB : (LB.length : Int) = ((andR X Y).length : Int) := by rw [← EB.out, List.length_map]
      have N1 : (L1.length : Int) = (X.length : Int) := by rw [← O1.out.2.1, List.length_map]
      have N2 : (L2.length : Int) = (Y.length : Int) := by rw [← O2.out.2.1, List.length_map]
      have KB := Lib.hid NB
      have K1 := Lib.hid N1
      have K2 := Lib.hid N2
      clear NB N1 N2
      go_wp2_with fail
      refine (or_b Ss.out St.out hwd1 (by omega)).mono ?_
      rintro e W6 ⟨pSo, rfl, hs, hb⟩
      replace O1 := Lib.hid (O1.out.below hb)
      replace O2 := Lib.hid (O2.out.below hb)
      replace Ss := Lib.hid (Ss.out.below hb)
      replace St := Lib.hid (St.out.below hb)
      replace RB := Lib.hid (RB.out.below hb)
      replace RL := Lib.hid (RL.out.below hb)
      have BW6 := Lib.hid (BW5.out.trans (hb.mono (show B ≤ W5.heap.size by have := BW5.out.size; rw [HB.out] at this; exact this)))
      have So := Lib.hid hs
      clear hb BW5 hs
      have HO : Hid ((W6.alloc (.cells #[] 23)).ownsRow W6.heap.size 23 1 (.slice (some ⟨W6.heap.size, 0, none⟩) 0 0) 0 []) := Lib.hid (World.ownsRow_lit (base := W6.heap.size) (e := 23) (size := 1) W6 #[] 0 (Nat.le_refl _) (by decide) rfl)
      have HBl := Lib.hid ((Below.refl W6.heap.size W6).alloc (Nat.le_refl _) (.cells #[] 23))
      have l1 : L1.length ≤ 60 := by have := Ss.out.2; have := K1.out; omega
      have l2 : L2.length ≤ 60 := by have := St.out.2; have := K2.out; omega
      go_wp2_with (first | (at_builtin; refine wpList_append_own _ rfl _ _ 22 rfl W6.heap.size 23 i0 (.slice none 0 0) 1 24 Try.underlying22 I.out Z0.out Z1.out Z2.out rfl (by decide) _ _ _ rfl HO.out ⟨g1, 0, none⟩ L1.length c1 (L1.map encV) rfl (by simp) ?x1 ?x2 ?x3 ?x4 ?x5 ?_))
      case x1 => exact rrow_news (O1.out.1.below HBl.out)
      case x2 => exact enc_one L1
      case x3 => unfold maxLen; omega
      case x4 => omega
      case x5 => simp
      intro v1 w7 hown hgrow _
      have O7 := Lib.hid hown
      have B7 := Lib.hid (HBl.out.grown hgrow (by simp) (fun k hk => (HO.out.lt k hk).1))
      clear hown hgrow HO
      go_wp2_with (first | (at_builtin; refine wpList_append_own _ rfl _ _ 22 rfl W6.heap.size 23 i0 (.slice none 0 0) 1 24 Try.underlying22 I.out Z0.out Z1.out Z2.out rfl (by decide) _ _ _ rfl O7.out ⟨g2, 0, none⟩ L2.length c2 (L2.map encV) rfl (by simp) ?y1 ?y2 ?y3 ?y4 ?y5 ?_))
      case y1 => exact rrow_news (O2.out.1.below B7.out)
      case y2 => exact enc_one L2
      case y3 => unfold maxLen; omega
      case y4 => omega
      case y5 => exact B7.out.size
      intro v2 W7 hown hgrow _
      have hb : Below W6.heap.size W6 W7 := B7.out.grown hgrow B7.out.size (fun k hk => (O7.out.lt k hk).1)
      replace O1 := Lib.hid (O1.out.below hb)
      replace O2 := Lib.hid (O2.out.below hb)
      replace Ss := Lib.hid (Ss.out.below hb)
      replace St := Lib.hid (St.out.below hb)
      replace RB := Lib.hid (RB.out.below hb)
      replace RL := Lib.hid (RL.out.below hb)
      replace So := Lib.hid (So.out.below hb)
      have BW7 := Lib.hid (BW6.out.trans (hb.mono (show B ≤ W6.heap.size by have := BW6.out.size; rw [HB.out] at this; exact this)))
      have hown2 : W7.ownsRow W6.heap.size 23 1 v2 (L1 ++ L2).length ((L1 ++ L2).map encV) := by simpa using hown
      obtain ⟨a3, c3, hv3, hR3⟩ := rrow_of_owns hown2 (fun x hx => by rcases List.mem_append.1 hx with h | h; exact O1.out.1.2 x h; exact O2.out.1.2 x h)
      have E3 : Hid (relOf (wd : Int) ((L1 ++ L2).map (·.2.1)) = orR X Y) := Lib.hid (by rw [List.map_append, O1.out.2.1, O2.out.2.1]; exact rel_or QX.out (fun r hr => by rw [QXW.out r hr]) (fun r hr => by rw [QYW.out r hr]))
      have l3 : (L1 ++ L2).length ≤ 120 := by rw [List.length_append]; omega
      have H8 : ∀ x ∈ L1 ++ L2, x.2.1.length ≤ 8 := fun x hx => by rcases List.mem_append.1 hx with h | h; exact O1.out.2.2.2 x h; exact O2.out.2.2.2 x h
      obtain ⟨L3, hL3⟩ : ∃ L3, L1 ++ L2 = L3 := ⟨_, rfl⟩
      rw [hL3] at hv3 hR3 E3 l3 H8
      rw [hv3]
      have cs := sort_w c3 wd hR3 l3 H8 hwd1
      rw [E3.out] at cs
      clear hown hown2 hgrow hb B7 O7 HBl BW6 hL3 hv3 hR3 E3 l3 H8
      go_wp2_with fail
      refine cs.mono ?_
      rintro e W8 ⟨g4, c4, L4, rfl, hs, hb⟩
      replace O1 := Lib.hid (O1.out.below hb)
      replace O2 := Lib.hid (O2.out.below hb)
      replace Ss := Lib.hid (Ss.out.below hb)
      replace St := Lib.hid (St.out.below hb)
      replace RB := Lib.hid (RB.out.below hb)
      replace RL := Lib.hid (RL.out.below hb)
      replace So := Lib.hid (So.out.below hb)
      have BW8 := Lib.hid (BW7.out.trans (hb.mono (show B ≤ W7.heap.size by have := BW7.out.size; rw [HB.out] at this; exact this)))
      have O4 := Lib.hid hs
      clear hb BW7 hs
      clear cs
      go_wp2_with fail
      refine (is_calls So.out.1 _ c4 _ O4.out.1 hwd1 (by have := So.out.2; omega) O4.out.2.1.symm).mono ?_
      rintro e W9 ⟨rfl, hb⟩
      clear So
      clear O4
      replace O1 := Lib.hid (O1.out.below hb)
      replace O2 := Lib.hid (O2.out.below hb)
      replace Ss := Lib.hid (Ss.out.below hb)
      replace St := Lib.hid (St.out.below hb)
      replace RB := Lib.hid (RB.out.below hb)
      replace RL := Lib.hid (RL.out.below hb)
      have BW9 := Lib.hid (BW8.out.trans (hb.mono (show B ≤ W8.heap.size by have := BW8.out.size; rw [HB.out] at this; exact this)))
      clear hb BW8
      go_wp2_with fail
      refine (and_b Ss.out St.out hwd1 (by omega)).mono ?_
      rintro e W10 ⟨pSa, rfl, hs, hb⟩
      replace O1 := Lib.hid (O1.out.below hb)
      replace O2 := Lib.hid (O2.out.below hb)
      replace Ss := Lib.hid (Ss.out.below hb)
      replace St := Lib.hid (St.out.below hb)
      replace RB := Lib.hid (RB.out.below hb)
      replace RL := Lib.hid (RL.out.below hb)
      have BW10 := Lib.hid (BW9.out.trans (hb.mono (show B ≤ W9.heap.size by have := BW9.out.size; rw [HB.out] at this; exact this)))
      have Sa := Lib.hid hs
      clear hb BW9 hs
      go_wp2_with fail
      refine (is_calls Sa.out.1 _ cb' _ RB.out hwd1 (by have := Sa.out.2; omega) EB.out.symm).mono ?_
      rintro e W11 ⟨rfl, hb⟩
      clear Sa
      replace O1 := Lib.hid (O1.out.below hb)
      replace O2 := Lib.hid (O2.out.below hb)
      replace Ss := Lib.hid (Ss.out.below hb)
      replace St := Lib.hid (St.out.below hb)
      replace RB := Lib.hid (RB.out.below hb)
      replace RL := Lib.hid (RL.out.below hb)
      have BW11 := Lib.hid (BW10.out.trans (hb.mono (show B ≤ W10.heap.size by have := BW10.out.size; rw [HB.out] at this; exact this)))
      clear hb BW10
      go_wp2_with fail
      refine (minus_b Ss.out St.out hwd1 (by omega)).mono ?_
      rintro e W12 ⟨pSm, rfl, hs, hb⟩
      replace O1 := Lib.hid (O1.out.below hb)
      replace O2 := Lib.hid (O2.out.below hb)
      replace Ss := Lib.hid (Ss.out.below hb)
      replace St := Lib.hid (St.out.below hb)
      replace RB := Lib.hid (RB.out.below hb)
      replace RL := Lib.hid (RL.out.below hb)
      have BW12 := Lib.hid (BW11.out.trans (hb.mono (show B ≤ W11.heap.size by have := BW11.out.size; rw [HB.out] at this; exact this)))
      have Sm := Lib.hid hs
      clear hb BW11 hs
      go_wp2_with fail
      refine (is_calls Sm.out.1 _ cl' _ RL.out hwd1 (by have := Sm.out.2; omega) EL.out.symm).mono ?_
      rintro e W13 ⟨rfl, hb⟩
      clear Sm
      clear RL
      clear RB
      replace O1 := Lib.hid (O1.out.below hb)
      replace O2 := Lib.hid (O2.out.below hb)
      replace Ss := Lib.hid (Ss.out.below hb)
      replace St := Lib.hid (St.out.below hb)
      have BW13 := Lib.hid (BW12.out.trans (hb.mono (show B ≤ W12.heap.size by have := BW12.out.size; rw [HB.out] at this; exact this)))
      clear hb BW12
      have cs := same_calls Ss.out.1 St.out.1 (by have := Ss.out.2; omega) (by have := St.out.2; omega) hwd1 hwd1
      have B1 := same_iff QX.out QY.out
      have KBv := KB.out
      have K1v := K1.out
      have K2v := K2.out
      have CASES : (X = Y ∧ LB.length = L1.length ∧ L1.length = L2.length) ∨ (¬ X = Y ∧ LB.length = L1.length ∧ ¬ L1.length = L2.length) ∨ (¬ X = Y ∧ ¬ LB.length = L1.length) := by
        by_cases h : X = Y
        · have := B1.1 h; exact .inl ⟨h, by omega, by omega⟩
        · by_cases h2 : LB.length = L1.length
          · refine .inr (.inl ⟨h, h2, fun h3 => h (B1.2 ⟨by omega, by omega⟩)⟩)
          · exact .inr (.inr ⟨h, h2⟩)
      clear B1 KBv K1v K2v KB K1 K2 EB EL
      rcases CASES with ⟨hXY, e1, e2⟩ | ⟨hXY, e1, e2⟩ | ⟨hXY, e1⟩
      · rw [decide_eq_true hXY] at cs
        have f1 : ((LB.length : Int) == (L1.length : Int)) = true := by rw [e1]; simp
        have f2 : ((L1.length : Int) == (L2.length : Int)) = true := by rw [e2]; simp
        clear hXY e1 e2
        go_wp2_with fail
        refine cs.mono ?_
        rintro e W14 ⟨rfl, hq⟩
        obtain ⟨q13, hq⟩ := hq
        have hb : Below W13.heap.size W13 W14 := by rw [hq]; exact below_drewN (Below.refl _ _) _
        clear hq
        replace O1 := Lib.hid (O1.out.below hb)
        replace O2 := Lib.hid (O2.out.below hb)
        replace Ss := Lib.hid (Ss.out.below hb)
        replace St := Lib.hid (St.out.below hb)
        have BW14 := Lib.hid (BW13.out.trans (hb.mono (show B ≤ W13.heap.size by have := BW13.out.size; rw [HB.out] at this; exact this)))
        clear hb BW13
        clear cs
        go_wp2_with fail
        refine (or_none Ss.out.1 (by have := Ss.out.2; omega)).mono ?_
        rintro e W15 ⟨rfl, hq⟩
        obtain ⟨q14, hq⟩ := hq
        have hb : Below W14.heap.size W14 W15 := by rw [hq]; exact below_drewN (Below.refl _ _) _
        clear hq
        replace O1 := Lib.hid (O1.out.below hb)
        replace O2 := Lib.hid (O2.out.below hb)
        replace Ss := Lib.hid (Ss.out.below hb)
        replace St := Lib.hid (St.out.below hb)
        have BW15 := Lib.hid (BW14.out.trans (hb.mono (show B ≤ W14.heap.size by have := BW14.out.size; rw [HB.out] at this; exact this)))
        clear hb BW14
        go_wp2_with fail
        refine (same_b Ss.out Ss.out hwd1 (by omega) rfl).mono ?_
        rintro e W16 ⟨rfl, hq⟩
        obtain ⟨q15, hq⟩ := hq
        have hb : Below W15.heap.size W15 W16 := by rw [hq]; exact below_drewN (Below.refl _ _) _
        clear hq
        replace O1 := Lib.hid (O1.out.below hb)
        replace O2 := Lib.hid (O2.out.below hb)
        replace Ss := Lib.hid (Ss.out.below hb)
        replace St := Lib.hid (St.out.below hb)
        have BW16 := Lib.hid (BW15.out.trans (hb.mono (show B ≤ W15.heap.size by have := BW15.out.size; rw [HB.out] at this; exact this)))
        clear hb BW15
        go_wp2_with fail
        refine (none_or ps _).mono ?_
        rintro e W17 ⟨rfl, hq⟩
        obtain ⟨q16, hq⟩ := hq
        have hb : Below W16.heap.size W16 W17 := by rw [hq]; exact below_drewN (Below.refl _ _) _
        clear hq
        replace O1 := Lib.hid (O1.out.below hb)
        replace O2 := Lib.hid (O2.out.below hb)
        replace Ss := Lib.hid (Ss.out.below hb)
        replace St := Lib.hid (St.out.below hb)
        have BW17 := Lib.hid (BW16.out.trans (hb.mono (show B ≤ W16.heap.size by have := BW16.out.size; rw [HB.out] at this; exact this)))
        clear hb BW16
        go_wp2_with fail
        refine (same_b Ss.out Ss.out hwd1 (by omega) rfl).mono ?_
        rintro e W18 ⟨rfl, hq⟩
        obtain ⟨q17, hq⟩ := hq
        have hb : Below W17.heap.size W17 W18 := by rw [hq]; exact below_drewN (Below.refl _ _) _
        clear hq
        replace O1 := Lib.hid (O1.out.below hb)
        replace O2 := Lib.hid (O2.out.below hb)
        replace Ss := Lib.hid (Ss.out.below hb)
        replace St := Lib.hid (St.out.below hb)
        have BW18 := Lib.hid (BW17.out.trans (hb.mono (show B ≤ W17.heap.size by have := BW17.out.size; rw [HB.out] at this; exact this)))
        clear hb BW17
        go_wp2_with fail
        refine (len_none _).mono ?_
        rintro e w' ⟨rfl, rfl⟩
        go_wp2_with fail
        refine (segWidth_calls (seg_none _)).mono ?_
        rintro e w' ⟨rfl, rfl⟩
        go_wp2_with fail
        refine (minus_none ps _).mono ?_
        rintro e W19 ⟨rfl, hq⟩
        obtain ⟨q18, hq⟩ := hq
        have hb : Below W18.heap.size W18 W19 := by rw [hq]; exact below_drewN (Below.refl _ _) _
        clear hq
        replace O1 := Lib.hid (O1.out.below hb)
        replace O2 := Lib.hid (O2.out.below hb)
        replace Ss := Lib.hid (Ss.out.below hb)
        replace St := Lib.hid (St.out.below hb)
        have BW19 := Lib.hid (BW18.out.trans (hb.mono (show B ≤ W18.heap.size by have := BW18.out.size; rw [HB.out] at this; exact this)))
        clear hb BW18
        go_wp2_with fail
        refine (same_b Ss.out Ss.out hwd1 (by omega) rfl).mono ?_
        rintro e W20 ⟨rfl, hq⟩
        obtain ⟨q19, hq⟩ := hq
        have hb : Below W19.heap.size W19 W20 := by rw [hq]; exact below_drewN (Below.refl _ _) _
        clear hq
        replace O1 := Lib.hid (O1.out.below hb)
        replace O2 := Lib.hid (O2.out.below hb)
        replace Ss := Lib.hid (Ss.out.below hb)
        replace St := Lib.hid (St.out.below hb)
        have BW20 := Lib.hid (BW19.out.trans (hb.mono (show B ≤ W19.heap.size by have := BW19.out.size; rw [HB.out] at this; exact this)))
        clear hb BW19
        go_wp2_with fail
        refine (and_none Ss.out.1).mono ?_
        rintro e W21 ⟨pn, rfl, hs, hb⟩
        replace O1 := Lib.hid (O1.out.below hb)
        replace O2 := Lib.hid (O2.out.below hb)
        replace Ss := Lib.hid (Ss.out.below hb)
        replace St := Lib.hid (St.out.below hb)
        have BW21 := Lib.hid (BW20.out.trans (hb.mono (show B ≤ W20.heap.size by have := BW20.out.size; rw [HB.out] at this; exact this)))
        have Sn := Lib.hid hs
        clear hb BW20 hs
        go_wp2_with fail
        refine (segLen_calls Sn.out).mono ?_
        rintro e w' ⟨rfl, rfl⟩
        clear Sn
        go_wp2_with fail
        refine (none_minus Ss.out.1 hwd1 (by have := Ss.out.2; omega)).mono ?_
        rintro e W22 ⟨wn, pn2, rfl, hs, hb⟩
        replace O1 := Lib.hid (O1.out.below hb)
        replace O2 := Lib.hid (O2.out.below hb)
        replace Ss := Lib.hid (Ss.out.below hb)
        replace St := Lib.hid (St.out.below hb)
        have BW22 := Lib.hid (BW21.out.trans (hb.mono (show B ≤ W21.heap.size by have := BW21.out.size; rw [HB.out] at this; exact this)))
        have Sn := Lib.hid hs
        clear hb BW21 hs
        go_wp2_with fail
        refine (segLen_calls Sn.out).mono ?_
        rintro e w' ⟨rfl, rfl⟩
        clear Sn
        go_wp2_with fail
        refine (is_calls Ss.out.1 _ c1 _ O1.out.1 hwd1 (by have := Ss.out.2; omega) O1.out.2.1.symm).mono ?_
        rintro e W23 ⟨rfl, hb⟩
        replace O1 := Lib.hid (O1.out.below hb)
        replace O2 := Lib.hid (O2.out.below hb)
        replace Ss := Lib.hid (Ss.out.below hb)
        replace St := Lib.hid (St.out.below hb)
        have BW23 := Lib.hid (BW22.out.trans (hb.mono (show B ≤ W22.heap.size by have := BW22.out.size; rw [HB.out] at this; exact this)))
        clear hb BW22
        go_wp2_with fail
        refine (is_calls St.out.1 _ c2 _ O2.out.1 hwd1 (by have := St.out.2; omega) O2.out.2.1.symm).mono ?_
        rintro e W24 ⟨rfl, hb⟩
        replace O1 := Lib.hid (O1.out.below hb)
        replace O2 := Lib.hid (O2.out.below hb)
        replace Ss := Lib.hid (Ss.out.below hb)
        replace St := Lib.hid (St.out.below hb)
        have BW24 := Lib.hid (BW23.out.trans (hb.mono (show B ≤ W23.heap.size by have := BW23.out.size; rw [HB.out] at this; exact this)))
        clear hb BW23
        go_wp2_with fail
        go_ret
        exact ⟨rfl, by rw [HB.out]; exact BW24.out⟩
      · rw [decide_eq_false hXY] at cs
        have f1 : ((LB.length : Int) == (L1.length : Int)) = true := by rw [e1]; simp
        have f2 : ((L1.length : Int) == (L2.length : Int)) = false := by simp; omega
        clear hXY e1 e2
        go_wp2_with fail
        refine cs.mono ?_
        rintro e W14 ⟨rfl, hq⟩
        obtain ⟨q13, hq⟩ := hq
        have hb : Below W13.heap.size W13 W14 := by rw [hq]; exact below_drewN (Below.refl _ _) _
        clear hq
        replace O1 := Lib.hid (O1.out.below hb)
        replace O2 := Lib.hid (O2.out.below hb)
        replace Ss := Lib.hid (Ss.out.below hb)
        replace St := Lib.hid (St.out.below hb)
        have BW14 := Lib.hid (BW13.out.trans (hb.mono (show B ≤ W13.heap.size by have := BW13.out.size; rw [HB.out] at this; exact this)))
        clear hb BW13
        clear cs
        go_wp2_with fail
        refine (or_none Ss.out.1 (by have := Ss.out.2; omega)).mono ?_
        rintro e W15 ⟨rfl, hq⟩
        obtain ⟨q14, hq⟩ := hq
        have hb : Below W14.heap.size W14 W15 := by rw [hq]; exact below_drewN (Below.refl _ _) _
        clear hq
        replace O1 := Lib.hid (O1.out.below hb)
        replace O2 := Lib.hid (O2.out.below hb)
        replace Ss := Lib.hid (Ss.out.below hb)
        replace St := Lib.hid (St.out.below hb)
        have BW15 := Lib.hid (BW14.out.trans (hb.mono (show B ≤ W14.heap.size by have := BW14.out.size; rw [HB.out] at this; exact this)))
        clear hb BW14
        go_wp2_with fail
        refine (same_b Ss.out Ss.out hwd1 (by omega) rfl).mono ?_
        rintro e W16 ⟨rfl, hq⟩
        obtain ⟨q15, hq⟩ := hq
        have hb : Below W15.heap.size W15 W16 := by rw [hq]; exact below_drewN (Below.refl _ _) _
        clear hq
        replace O1 := Lib.hid (O1.out.below hb)
        replace O2 := Lib.hid (O2.out.below hb)
        replace Ss := Lib.hid (Ss.out.below hb)
        replace St := Lib.hid (St.out.below hb)
        have BW16 := Lib.hid (BW15.out.trans (hb.mono (show B ≤ W15.heap.size by have := BW15.out.size; rw [HB.out] at this; exact this)))
        clear hb BW15
        go_wp2_with fail
        refine (none_or ps _).mono ?_
        rintro e W17 ⟨rfl, hq⟩
        obtain ⟨q16, hq⟩ := hq
        have hb : Below W16.heap.size W16 W17 := by rw [hq]; exact below_drewN (Below.refl _ _) _
        clear hq
        replace O1 := Lib.hid (O1.out.below hb)
        replace O2 := Lib.hid (O2.out.below hb)
        replace Ss := Lib.hid (Ss.out.below hb)
        replace St := Lib.hid (St.out.below hb)
        have BW17 := Lib.hid (BW16.out.trans (hb.mono (show B ≤ W16.heap.size by have := BW16.out.size; rw [HB.out] at this; exact this)))
        clear hb BW16
        go_wp2_with fail
        refine (same_b Ss.out Ss.out hwd1 (by omega) rfl).mono ?_
        rintro e W18 ⟨rfl, hq⟩
        obtain ⟨q17, hq⟩ := hq
        have hb : Below W17.heap.size W17 W18 := by rw [hq]; exact below_drewN (Below.refl _ _) _
        clear hq
        replace O1 := Lib.hid (O1.out.below hb)
        replace O2 := Lib.hid (O2.out.below hb)
        replace Ss := Lib.hid (Ss.out.below hb)
        replace St := Lib.hid (St.out.below hb)
        have BW18 := Lib.hid (BW17.out.trans (hb.mono (show B ≤ W17.heap.size by have := BW17.out.size; rw [HB.out] at this; exact this)))
        clear hb BW17
        go_wp2_with fail
        refine (len_none _).mono ?_
        rintro e w' ⟨rfl, rfl⟩
        go_wp2_with fail
        refine (segWidth_calls (seg_none _)).mono ?_
        rintro e w' ⟨rfl, rfl⟩
        go_wp2_with fail
        refine (minus_none ps _).mono ?_
        rintro e W19 ⟨rfl, hq⟩
        obtain ⟨q18, hq⟩ := hq
        have hb : Below W18.heap.size W18 W19 := by rw [hq]; exact below_drewN (Below.refl _ _) _
        clear hq
        replace O1 := Lib.hid (O1.out.below hb)
        replace O2 := Lib.hid (O2.out.below hb)
        replace Ss := Lib.hid (Ss.out.below hb)
        replace St := Lib.hid (St.out.below hb)
        have BW19 := Lib.hid (BW18.out.trans (hb.mono (show B ≤ W18.heap.size by have := BW18.out.size; rw [HB.out] at this; exact this)))
        clear hb BW18
        go_wp2_with fail
        refine (same_b Ss.out Ss.out hwd1 (by omega) rfl).mono ?_
        rintro e W20 ⟨rfl, hq⟩
        obtain ⟨q19, hq⟩ := hq
        have hb : Below W19.heap.size W19 W20 := by rw [hq]; exact below_drewN (Below.refl _ _) _
        clear hq
        replace O1 := Lib.hid (O1.out.below hb)
        replace O2 := Lib.hid (O2.out.below hb)
        replace Ss := Lib.hid (Ss.out.below hb)
        replace St := Lib.hid (St.out.below hb)
        have BW20 := Lib.hid (BW19.out.trans (hb.mono (show B ≤ W19.heap.size by have := BW19.out.size; rw [HB.out] at this; exact this)))
        clear hb BW19
        go_wp2_with fail
        refine (and_none Ss.out.1).mono ?_
        rintro e W21 ⟨pn, rfl, hs, hb⟩
        replace O1 := Lib.hid (O1.out.below hb)
        replace O2 := Lib.hid (O2.out.below hb)
        replace Ss := Lib.hid (Ss.out.below hb)
        replace St := Lib.hid (St.out.below hb)
        have BW21 := Lib.hid (BW20.out.trans (hb.mono (show B ≤ W20.heap.size by have := BW20.out.size; rw [HB.out] at this; exact this)))
        have Sn := Lib.hid hs
        clear hb BW20 hs
        go_wp2_with fail
        refine (segLen_calls Sn.out).mono ?_
        rintro e w' ⟨rfl, rfl⟩
        clear Sn
        go_wp2_with fail
        refine (none_minus Ss.out.1 hwd1 (by have := Ss.out.2; omega)).mono ?_
        rintro e W22 ⟨wn, pn2, rfl, hs, hb⟩
        replace O1 := Lib.hid (O1.out.below hb)
        replace O2 := Lib.hid (O2.out.below hb)
        replace Ss := Lib.hid (Ss.out.below hb)
        replace St := Lib.hid (St.out.below hb)
        have BW22 := Lib.hid (BW21.out.trans (hb.mono (show B ≤ W21.heap.size by have := BW21.out.size; rw [HB.out] at this; exact this)))
        have Sn := Lib.hid hs
        clear hb BW21 hs
        go_wp2_with fail
        refine (segLen_calls Sn.out).mono ?_
        rintro e w' ⟨rfl, rfl⟩
        clear Sn
        go_wp2_with fail
        refine (is_calls Ss.out.1 _ c1 _ O1.out.1 hwd1 (by have := Ss.out.2; omega) O1.out.2.1.symm).mono ?_
        rintro e W23 ⟨rfl, hb⟩
        replace O1 := Lib.hid (O1.out.below hb)
        replace O2 := Lib.hid (O2.out.below hb)
        replace Ss := Lib.hid (Ss.out.below hb)
        replace St := Lib.hid (St.out.below hb)
        have BW23 := Lib.hid (BW22.out.trans (hb.mono (show B ≤ W22.heap.size by have := BW22.out.size; rw [HB.out] at this; exact this)))
        clear hb BW22
        go_wp2_with fail
        refine (is_calls St.out.1 _ c2 _ O2.out.1 hwd1 (by have := St.out.2; omega) O2.out.2.1.symm).mono ?_
        rintro e W24 ⟨rfl, hb⟩
        replace O1 := Lib.hid (O1.out.below hb)
        replace O2 := Lib.hid (O2.out.below hb)
        replace Ss := Lib.hid (Ss.out.below hb)
        replace St := Lib.hid (St.out.below hb)
        have BW24 := Lib.hid (BW23.out.trans (hb.mono (show B ≤ W23.heap.size by have := BW23.out.size; rw [HB.out] at this; exact this)))
        clear hb BW23
        go_wp2_with fail
        go_ret
        exact ⟨rfl, by rw [HB.out]; exact BW24.out⟩
      · rw [decide_eq_false hXY] at cs
        have f1 : ((LB.length : Int) == (L1.length : Int)) = false := by simp; omega
        clear hXY e1
        go_wp2_with fail
        refine cs.mono ?_
        rintro e W14 ⟨rfl, hq⟩
        obtain ⟨q13, hq⟩ := hq
        have hb : Below W13.heap.size W13 W14 := by rw [hq]; exact below_drewN (Below.refl _ _) _
        clear hq
        replace O1 := Lib.hid (O1.out.below hb)
        replace O2 := Lib.hid (O2.out.below hb)
        replace Ss := Lib.hid (Ss.out.below hb)
        replace St := Lib.hid (St.out.below hb)
        have BW14 := Lib.hid (BW13.out.trans (hb.mono (show B ≤ W13.heap.size by have := BW13.out.size; rw [HB.out] at this; exact this)))
        clear hb BW13
        clear cs
        go_wp2_with fail
        refine (or_none Ss.out.1 (by have := Ss.out.2; omega)).mono ?_
        rintro e W15 ⟨rfl, hq⟩
        obtain ⟨q14, hq⟩ := hq
        have hb : Below W14.heap.size W14 W15 := by rw [hq]; exact below_drewN (Below.refl _ _) _
        clear hq
        replace O1 := Lib.hid (O1.out.below hb)
        replace O2 := Lib.hid (O2.out.below hb)
        replace Ss := Lib.hid (Ss.out.below hb)
        replace St := Lib.hid (St.out.below hb)
        have BW15 := Lib.hid (BW14.out.trans (hb.mono (show B ≤ W14.heap.size by have := BW14.out.size; rw [HB.out] at this; exact this)))
        clear hb BW14
        go_wp2_with fail
        refine (same_b Ss.out Ss.out hwd1 (by omega) rfl).mono ?_
        rintro e W16 ⟨rfl, hq⟩
        obtain ⟨q15, hq⟩ := hq
        have hb : Below W15.heap.size W15 W16 := by rw [hq]; exact below_drewN (Below.refl _ _) _
        clear hq
        replace O1 := Lib.hid (O1.out.below hb)
        replace O2 := Lib.hid (O2.out.below hb)
        replace Ss := Lib.hid (Ss.out.below hb)
        replace St := Lib.hid (St.out.below hb)
        have BW16 := Lib.hid (BW15.out.trans (hb.mono (show B ≤ W15.heap.size by have := BW15.out.size; rw [HB.out] at this; exact this)))
        clear hb BW15
        go_wp2_with fail
        refine (none_or ps _).mono ?_
        rintro e W17 ⟨rfl, hq⟩
        obtain ⟨q16, hq⟩ := hq
        have hb : Below W16.heap.size W16 W17 := by rw [hq]; exact below_drewN (Below.refl _ _) _
        clear hq
        replace O1 := Lib.hid (O1.out.below hb)
        replace O2 := Lib.hid (O2.out.below hb)
        replace Ss := Lib.hid (Ss.out.below hb)
        replace St := Lib.hid (St.out.below hb)
        have BW17 := Lib.hid (BW16.out.trans (hb.mono (show B ≤ W16.heap.size by have := BW16.out.size; rw [HB.out] at this; exact this)))
        clear hb BW16
        go_wp2_with fail
        refine (same_b Ss.out Ss.out hwd1 (by omega) rfl).mono ?_
        rintro e W18 ⟨rfl, hq⟩
        obtain ⟨q17, hq⟩ := hq
        have hb : Below W17.heap.size W17 W18 := by rw [hq]; exact below_drewN (Below.refl _ _) _
        clear hq
        replace O1 := Lib.hid (O1.out.below hb)
        replace O2 := Lib.hid (O2.out.below hb)
        replace Ss := Lib.hid (Ss.out.below hb)
        replace St := Lib.hid (St.out.below hb)
        have BW18 := Lib.hid (BW17.out.trans (hb.mono (show B ≤ W17.heap.size by have := BW17.out.size; rw [HB.out] at this; exact this)))
        clear hb BW17
        go_wp2_with fail
        refine (len_none _).mono ?_
        rintro e w' ⟨rfl, rfl⟩
        go_wp2_with fail
        refine (segWidth_calls (seg_none _)).mono ?_
        rintro e w' ⟨rfl, rfl⟩
        go_wp2_with fail
        refine (minus_none ps _).mono ?_
        rintro e W19 ⟨rfl, hq⟩
        obtain ⟨q18, hq⟩ := hq
        have hb : Below W18.heap.size W18 W19 := by rw [hq]; exact below_drewN (Below.refl _ _) _
        clear hq
        replace O1 := Lib.hid (O1.out.below hb)
        replace O2 := Lib.hid (O2.out.below hb)
        replace Ss := Lib.hid (Ss.out.below hb)
        replace St := Lib.hid (St.out.below hb)
        have BW19 := Lib.hid (BW18.out.trans (hb.mono (show B ≤ W18.heap.size by have := BW18.out.size; rw [HB.out] at this; exact this)))
        clear hb BW18
        go_wp2_with fail
        refine (same_b Ss.out Ss.out hwd1 (by omega) rfl).mono ?_
        rintro e W20 ⟨rfl, hq⟩
        obtain ⟨q19, hq⟩ := hq
        have hb : Below W19.heap.size W19 W20 := by rw [hq]; exact below_drewN (Below.refl _ _) _
        clear hq
        replace O1 := Lib.hid (O1.out.below hb)
        replace O2 := Lib.hid (O2.out.below hb)
        replace Ss := Lib.hid (Ss.out.below hb)
        replace St := Lib.hid (St.out.below hb)
        have BW20 := Lib.hid (BW19.out.trans (hb.mono (show B ≤ W19.heap.size by have := BW19.out.size; rw [HB.out] at this; exact this)))
        clear hb BW19
        go_wp2_with fail
        refine (and_none Ss.out.1).mono ?_
        rintro e W21 ⟨pn, rfl, hs, hb⟩
        replace O1 := Lib.hid (O1.out.below hb)
        replace O2 := Lib.hid (O2.out.below hb)
        replace Ss := Lib.hid (Ss.out.below hb)
        replace St := Lib.hid (St.out.below hb)
        have BW21 := Lib.hid (BW20.out.trans (hb.mono (show B ≤ W20.heap.size by have := BW20.out.size; rw [HB.out] at this; exact this)))
        have Sn := Lib.hid hs
        clear hb BW20 hs
        go_wp2_with fail
        refine (segLen_calls Sn.out).mono ?_
        rintro e w' ⟨rfl, rfl⟩
        clear Sn
        go_wp2_with fail
        refine (none_minus Ss.out.1 hwd1 (by have := Ss.out.2; omega)).mono ?_
        rintro e W22 ⟨wn, pn2, rfl, hs, hb⟩
        replace O1 := Lib.hid (O1.out.below hb)
        replace O2 := Lib.hid (O2.out.below hb)
        replace Ss := Lib.hid (Ss.out.below hb)
        replace St := Lib.hid (St.out.below hb)
        have BW22 := Lib.hid (BW21.out.trans (hb.mono (show B ≤ W21.heap.size by have := BW21.out.size; rw [HB.out] at this; exact this)))
        have Sn := Lib.hid hs
        clear hb BW21 hs
        go_wp2_with fail
        refine (segLen_calls Sn.out).mono ?_
        rintro e w' ⟨rfl, rfl⟩
        clear Sn
        go_wp2_with fail
        refine (is_calls Ss.out.1 _ c1 _ O1.out.1 hwd1 (by have := Ss.out.2; omega) O1.out.2.1.symm).mono ?_
        rintro e W23 ⟨rfl, hb⟩
        replace O1 := Lib.hid (O1.out.below hb)
        replace O2 := Lib.hid (O2.out.below hb)
        replace Ss := Lib.hid (Ss.out.below hb)
        replace St := Lib.hid (St.out.below hb)
        have BW23 := Lib.hid (BW22.out.trans (hb.mono (show B ≤ W22.heap.size by have := BW22.out.size; rw [HB.out] at this; exact this)))
        clear hb BW22
        go_wp2_with fail
        refine (is_calls St.out.1 _ c2 _ O2.out.1 hwd1 (by have := St.out.2; omega) O2.out.2.1.symm).mono ?_
        rintro e W24 ⟨rfl, hb⟩
        replace O1 := Lib.hid (O1.out.below hb)
        replace O2 := Lib.hid (O2.out.below hb)
        replace Ss := Lib.hid (Ss.out.below hb)
        replace St := Lib.hid (St.out.below hb)
        have BW24 := Lib.hid (BW23.out.trans (hb.mono (show B ≤ W23.heap.size by have := BW23.out.size; rw [HB.out] at this; exact this)))
        clear hb BW23
        go_wp2_with fail
        go_ret
        exact ⟨rfl, by rw [HB.out]; exact BW24.out⟩
theorem ops_walk (width : Int) (a b : Option Addr) (ca cb : Nat) (A1 A2 : List RV) (w : World) (h1 : NestArgs w a A1) (h2 : NestArgs w b A2) :
    Calls Try.prog 4 #[.int .i64 width, .slice a A1.length ca, .slice b A2.length cb] w (TrueRet5 w) := by
  cases hf1 : fewB A1 with
  | false => exact ops_few1 width a b ca cb A1 A2 w h1 h2 hf1
  | true =>
    cases hf2 : fewB A2 with
    | false => exact ops_few2 width a b ca cb A1 A2 w h1 h2 hf1 hf2
    | true => exact ops_full width a b ca cb A1 A2 w h1 h2 hf1 hf2
end Go.Proofs.Ytkcpdkhdjgfigaa
