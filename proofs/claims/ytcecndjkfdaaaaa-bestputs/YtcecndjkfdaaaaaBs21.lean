/- BestAdds, walked. -/
import Derived.Test.YtcecndjkfdaaaaaBs20
namespace Go.Proofs.Ytcecndjkfdaaaaa
open Go.RowKit Go.Maps
set_option linter.unusedVariables false
set_option linter.unusedSimpArgs false

structure AX (B : Nat) (w W : World) (N : Nat → Prop) (g wd : Nat) (great : Bool) (eb el : List Ent) (a : Option Addr) (L : List RV) : Prop where
  bb : BB B w W N g wd great eb
  re : RE W a wd el L
  fq : FQ W N a L
  same : ∀ k, lookE eb k = lookE el k
theorem AX.next {B : Nat} {w W W' : World} {N : Nat → Prop} {g wd : Nat} {great : Bool} {eb el : List Ent} {a : Option Addr} {L : List RV} (h : AX B w W N g wd great eb el a L) (hb : Below W.heap.size W W') : AX B w W' N g wd great eb el a L := ⟨h.bb.next hb, h.re.below hb, h.fq.grow hb.size, h.same⟩
theorem row_last {w : World} {a : Option Addr} {k : List Int} {c : Int} (h : Row w a (k ++ [c])) : ∃ b off, a = some ⟨b, off, none⟩ ∧ b < w.heap.size ∧ w.cell? ⟨b, off + k.length, none⟩ = some (.int .i64 c) ∧ Row w a k := by
  obtain ⟨b, off, h1, h2, h3⟩ := h.at (k := k.length) (by simp)
  have h4 := row_takeB h k.length
  rw [List.take_left'] at h4
  · exact ⟨b, off, h1, h2, by simpa using h3, h4⟩
  · rfl
theorem row_split {r : List Int} {wd : Nat} (h : r.length = wd + 1) : r = r.take wd ++ [r[wd]?.getD 0] ∧ (r.take wd).length = wd := by
  refine ⟨?_, by simp; omega⟩
  have h1 := List.take_succ_eq_append_getElem (l := r) (i := wd) (by omega)
  rw [List.take_of_length_le (by omega)] at h1
  rw [List.getElem?_eq_getElem (by omega), Option.getD_some]
  exact h1
theorem rel_look {n : Nat} {e1 e2 : List Ent} (hd1 : DistE e1) (hd2 : DistE e2) (h : ∀ k, lookE e1 k = lookE e2 k) : relOf (n : Int) (e1.map rowE) = relOf (n : Int) (e2.map rowE) := by
  have := news_same (wd := n) (e1 := []) (e2 := []) hd1 hd2 (fun _ => rfl) h
  rw [news_nil, news_nil] at this
  exact this
theorem rrow_single {M : World} {a : Option Addr} {z : List Int} {c : Nat} (h : Row M a z) (hc : z.length ≤ c) : RRow (M.alloc (.cells #[.slice a z.length c] 40)) (some ⟨M.heap.size, 0, none⟩) [(a, z, c)] := by
  refine ⟨.inr ⟨M.heap.size, 0, rfl, by simp, fun i hi => ?_⟩, fun x hx => ?_⟩
  · obtain rfl : i = 0 := by simp at hi; exact hi
    have := cell_one_new M (.slice a z.length c) 40 0 _ rfl
    exact this
  · simp at hx; subst hx; exact ⟨h.below ((Below.refl _ _).alloc (Nat.le_refl _) _), hc⟩
/-- The law's put, told from an earlier world. -/
def LPut2 (S : Nat) (Y : World) (a : Option Addr) (L : List RV) (wd : Nat) (great : Bool) (es : List Ent) (k : List Int) (c : Int) (e : Ending) (w' : World) : Prop :=
  ∃ a' c' L' x, e = .returned (.tuple #[.slice a' L'.length c', .bool x]) ∧ RE w' a' wd (lputE great es k c) L' ∧ Below S Y w' ∧ (a' = a ∨ ∀ p, a' = some p → S ≤ p.block) ∧ ∀ x ∈ L', x ∈ L ∨ ∀ p, x.1 = some p → S ≤ p.block
theorem lput2_calls {w : World} {a : Option Addr} {wd : Nat} {es : List Ent} {L : List RV} (cap : Nat) (great : Bool) (h : RE w a wd es L) (ad : Addr) (kc : Nat) (key : List Int) (cost : Int) (hk : Row w (some ad) key) (hkl : key.length = wd) (hkr : InRange key) (hwd : wd ≤ 100) (hL : L.length ≤ 900) {S : Nat} (hS : w.heap.size = S) {W : World} (hb : Below S w W) :
    Calls Try.prog 27 #[.slice a L.length cap, .bool great, .slice (some ad) wd kc, .int .i64 cost] W (LPut2 S w a L wd great es key cost) := by
  have c := lput_calls cap great (h.belowB hS hb) ad kc key cost (hk.belowB hS hb) hkl hkr hwd hL
  rw [hkl] at c
  have hs : S ≤ W.heap.size := by have := hb.size; omega
  refine c.mono ?_
  rintro e w' ⟨a', c', L', h1, h2, h3, h4, h5⟩
  refine ⟨a', c', L', _, h1, h2, hb.trans (h3.mono hs), ?_, fun x hx => ?_⟩
  · rcases h4 with h4 | h4
    · exact .inl h4
    · exact .inr (fun p hp => Nat.le_trans hs (h4 p hp))
  · rcases h5 x hx with h5 | h5
    · exact .inl h5
    · exact .inr (fun p hp => Nat.le_trans hs (h5 p hp))
theorem heldB {S : Nat} {Y W : World} {b o : Nat} {v : Value} (hc : Y.cell? ⟨b, o, none⟩ = some v) (hlt : b < S) (hS : Y.heap.size = S) (hb : Below S Y W) : W.cell? ⟨b, o, none⟩ = some v ∧ Below S Y W ∧ S ≤ W.heap.size :=
  ⟨(hb.cell (p := ⟨b, o, none⟩) hlt).trans hc, hb, by have := hb.size; omega⟩
set_option maxRecDepth 100000 in
set_option maxHeartbeats 8000000 in
theorem bestAdds_walk {w : World} {a : Option Addr} {T : List TV} (width : Int) (great : Bool) (cap : Nat) (hargs : TArgs w a T) :
    Calls Try.prog 9 #[.int .i64 width, .bool great, .slice a T.length cap] w (TrueRet5 w) := by
  obtain ⟨B, hB⟩ : ∃ B, w.heap.size = B := ⟨_, rfl⟩
  have HB := Lib.hid hB
  have HT := Lib.hid hargs
  have hTl := hargs.len
  obtain ⟨wd, hwd3, hwd⟩ := width4 width
  obtain ⟨i0, hi, hz0, hz1, hz2⟩ := info_parts info23
  have I := Lib.hid hi
  have Z0 := Lib.hid hz0
  have Z1' := Lib.hid hz1
  have Z2' := Lib.hid hz2
  obtain ⟨i1, hi', hz0', hz1', hz2'⟩ := info_parts info2
  have I2 := Lib.hid hi'
  have Y0 := Lib.hid hz0'
  have Y1 := Lib.hid hz1'
  have Y2 := Lib.hid hz2'
  clear hi hz0 hz1 hz2 hi' hz0' hz1' hz2'
  clear hB hargs
  go_enter Try.func9, Try.ntmps9
  go_wp2_with fail
  refine (head10_calls w).mono ?_
  rintro e W1 ⟨rfl, hb1⟩
  have B1 : Hid (Below B w W1) := Lib.hid (by rw [HB.out] at hb1; exact hb1)
  clear hb1
  by_cases h8 : 8 < T.length
  · go_wp2_with fail
    go_ret
    exact ⟨rfl, by rw [HB.out]; exact B1.out⟩
  · have hBW1 : B ≤ W1.heap.size := by have := B1.out.size; rw [HB.out] at this; exact this
    have cn : Calls Try.prog 26 #[.int .i64 wd, .bool great] W1 _ := new_calls (wd : Int) great W1
    have H2 := Lib.hid (BB.new B1.out hBW1 wd great)
    go_wp2_with fail
    rw [hwd]
    clear hwd
    refine cn.mono ?_
    rintro e w' ⟨rfl, rfl⟩
    clear cn
    obtain ⟨g, hg⟩ : ∃ g, W1.heap.size = g := ⟨_, rfl⟩
    rw [hg] at H2 ⊢
    clear hg hBW1
    generalize World.alloc W1 _ = W2 at *
    generalize (fun k => k = g) = N2 at *
    go_wp2_with fail
    have X0 : Hid (AX B w (W2.alloc (.cells #[] 40)) N2 g wd great [] [] (some ⟨W2.heap.size, 0, none⟩) []) := Lib.hid ⟨H2.out.next ((Below.refl W2.heap.size W2).alloc (Nat.le_refl _) _), ⟨⟨.inl rfl, fun x hx => by cases hx⟩, rfl, ⟨List.Pairwise.nil, fun e he => (by cases he), fun e he => (by cases he)⟩⟩, ⟨fun p hp => by cases hp; exact ⟨fun hn => by have := H2.out.b.lt _ hn; simp at this, by simp⟩, fun x hx => by cases hx⟩, fun k => rfl⟩
    generalize (some ({ block := W2.heap.size, off := 0 } : Addr)) = ra0 at *
    generalize World.alloc W2 _ = W3 at *
    clear H2 B1
    go_loopw [35, 8] (fun s v wr => ∃ (t : Nat) (N : Nat → Prop) (eb el : List Ent) (ra : Option Addr) (rc : Nat) (L : List RV), t ≤ T.length ∧ s = .int .i64 t ∧ v = .slice ra L.length rc ∧ Hid (el.length ≤ 60 * t) ∧ Hid (eb.length ≤ 60 * t) ∧ Hid (AX B w wr N g wd great eb el ra L)) (fun s _ _ => T.length - (intOf s).toNat)
    case atStart => exact ⟨0, N2, [], [], ra0, 0, [], Nat.zero_le _, rfl, rfl, Lib.hid (Nat.le_refl _), Lib.hid (Nat.le_refl _), X0⟩
    case round =>
      obtain ⟨t, N, eb, el, ra, rc, L, ht, rfl, rfl, LEL, LEB, HX⟩ := hrel
      obtain ⟨X, rfl⟩ : ∃ x, x = wr := ⟨wr, rfl⟩
      have HLL : Hid (L.length = el.length) := Lib.hid HX.out.re.len
      clear X0
      by_cases hlt : t < T.length
      · obtain ⟨tb, tof, hta, htc⟩ := HT.out.at HB.out HX.out.bb.bel hlt
        cases hta
        have NA := HT.out.rows _ (atT_mem hlt)
        generalize atT T t = x at *
        obtain ⟨la, A, lc⟩ := x
        simp only at htc NA
        have HN := Lib.hid NA.1
        have RG : Hid (∀ r ∈ relOf ((wd + 1 : Nat) : Int) (A.map (·.2.1)), InRange (r.take wd)) := Lib.hid (rel_range NA.2 _ wd)
        have cf := few_w (W := X) lc HN.out HB.out HX.out.bb.bel
        clear NA
        go_wp2_with fail
        cases hf : fewB A
        · rw [hf] at cf
          refine cf.mono ?_
          rintro e w' ⟨rfl, rfl⟩
          clear cf
          go_wp2_with fail
          go_ret
          exact ⟨rfl, by rw [HB.out]; exact HX.out.bb.bel⟩
        · rw [hf] at cf
          refine cf.mono ?_
          rintro e w' ⟨rfl, rfl⟩
          obtain ⟨hAl, hA8⟩ := few_ok hf
          have HA8 : Hid (∀ x ∈ A, x.2.1.length ≤ 1000000) := Lib.hid (fun x hx => by have := hA8 x hx; omega)
          clear cf hf hA8 htc
          have hrl : (relOf ((wd + 1 : Nat) : Int) (A.map (·.2.1))).length ≤ 60 := by have h8 := rel_len ((wd + 1 : Nat) : Int) (A.map (·.2.1)); rw [List.length_map] at h8; omega
          have cm := make_later (wd + 1) la lc A X (HN.out.1.belowB HB.out HX.out.bb.bel) (by omega) (by omega) HA8.out
          obtain ⟨rs, hrs⟩ : ∃ rs, relOf ((wd + 1 : Nat) : Int) (A.map (·.2.1)) = rs := ⟨_, rfl⟩
          rw [hrs] at cm hrl RG
          clear hrs
          have ec : ((wd + 1 : Nat) : Int) = (wd : Int) + 1 := by omega
          rw [ec] at cm
          clear ec
          go_wp2_with fail
          refine cm.mono ?_
          rintro e X1 ⟨p1, rfl, hl1, hb1⟩
          have H1 := Lib.hid (HX.out.next hb1)
          have G1 : Hid (∀ W, Later X.heap.size X1 W → Seg W p1 (wd + 1) rs) := Lib.hid hl1
          have O1 : Hid (∀ k, N k → k < X.heap.size) := Lib.hid HX.out.bb.b.lt
          have S01 := Lib.hid hb1.size
          clear cm hl1 hb1 HX
          obtain ⟨S1, hS1⟩ : ∃ S, X1.heap.size = S := ⟨_, rfl⟩
          have HS1 := Lib.hid hS1
          clear hS1
          go_wp2_with fail
          go_loopw [13, 8] (fun s v wr => ∃ (i : Nat) (ra2 : Option Addr) (rc2 : Nat) (L2 : List RV), i ≤ rs.length ∧ s = .int .i64 i ∧ v = .slice ra2 L2.length rc2 ∧ Hid (RE wr ra2 wd (lputs great wd el rs i) L2) ∧ Hid (FQ wr N ra2 L2) ∧ Hid (Below S1 X1 wr)) (fun s _ _ => rs.length - (intOf s).toNat)
          case atStart => exact ⟨0, ra, rc, L, Nat.zero_le _, rfl, rfl, Lib.hid H1.out.re, Lib.hid H1.out.fq, Lib.hid (Below.refl _ _)⟩
          case round =>
            obtain ⟨i, ra2, rc2, L2, hi, rfl, rfl, R2, F2, B2⟩ := hrel
            obtain ⟨Y, rfl⟩ : ∃ x, x = wr := ⟨wr, rfl⟩
            have B2' : Hid (Below X1.heap.size X1 Y) := Lib.hid (by rw [HS1.out]; exact B2.out)
            have sg := Lib.hid (G1.out Y ((Later.refl _ _).below B2'.out))
            have hL2 : L2.length ≤ 900 := by
              have h1 := R2.out.len
              have h2 := lputs_len great wd el rs i
              have h3 := LEL.out
              omega
            go_wp2_with fail
            refine (segLen_calls sg.out).mono ?_
            rintro e w' ⟨rfl, rfl⟩
            by_cases hlt2 : i < rs.length
            · have cr := segRowF_calls sg.out i hlt2 (by omega) (by omega)
              have LS := Lib.hid (lputs_succ (great := great) (wd := wd) (es := el) hlt2)
              obtain ⟨hsp, hkl⟩ := row_split (sg.out.2.1 _ (rowAt_mem hlt2))
              have hkr := RG.out _ (rowAt_mem hlt2)
              generalize (rowAt rs i).take wd = k at *
              generalize (rowAt rs i)[wd]?.getD 0 = c at *
              rw [hsp] at cr
              clear hsp
              go_wp2_with fail
              refine cr.mono ?_
              rintro e Z ⟨rra, rrc, rfl, hr, hrcap, hrf, hb⟩
              obtain ⟨rb, ro, hra, hrlt, hrc, hrk⟩ := row_last hr
              subst hra
              rw [hkl] at hrc
              simp only [List.length_append, List.length_cons, List.length_nil, hkl, Nat.zero_add] at hrcap ⊢
              have qc1 : (wd : Int) ≤ (rrc : Int) := by omega
              have qc2 : ¬ rrc = 0 := by omega
              have qc3 : (wd : Int) < (wd : Int) + 1 := by omega
              have R3 := R2.out.below hb
              obtain ⟨S3, hS3⟩ : ∃ S, Z.heap.size = S := ⟨_, rfl⟩
              have hrlS : rb < S3 := by rw [← hS3]; exact hrlt
              have CP : Hid (∀ w', Below S3 Z w' → Calls Try.prog 27 #[.slice ra2 L2.length rc2, .bool great, .slice (some ⟨rb, ro, none⟩) wd rrc, .int .i64 c] w' (LPut2 S3 Z ra2 L2 wd great (lputs great wd el rs i) k c)) := Lib.hid (fun w' hb' => lput2_calls rc2 great R3 ⟨rb, ro, none⟩ rrc k c hrk hkl hkr (by omega) hL2 hS3 hb')
              have F3 := Lib.hid (F2.out.grow hb.size)
              have B3 : Hid (Below S1 X1 Z) := Lib.hid (B2.out.trans (hb.mono (by have := B2.out.size; rw [HS1.out] at this; exact this)))
              have HS3 := Lib.hid hS3
              have s1 : Below S3 Z Z := Below.refl _ _
              have s2 : S3 ≤ Z.heap.size := Nat.le_of_eq hS3.symm
              clear cr hr hrf hb hrk hkr R3 hrlt hrcap B2' sg
              clear hS3 hkl
              go_wp2_with fail
              go_region_held3 (fun w' => w'.cell? ⟨rb, ro + wd, none⟩ = some (.int .i64 c) ∧ Below S3 Z w' ∧ S3 ≤ w'.heap.size)
                (first | (exact ⟨hrc, s1.drew, s2⟩) | assumption | (exact heldB hrc hrlS HS3.out ‹Below S3 Z _›))
                (first
                  | (go_at_call 27; (with_reducible refine (CP.out _ (And.left (And.right ‹_ ∧ Below S3 Z _ ∧ _›))).mono ?_); rintro e w4 ⟨a4, c4, L4, x4, rfl, hr4, hb4, ha4, hx4⟩))
              rename_i hHeld
              clear hHeld
              have R4 : Hid (RE w4 a4 wd (lputs great wd el rs (i + 1)) L4) := Lib.hid (by rw [LS.out]; exact hr4)
              have NZ : ∀ k, N k → k < Z.heap.size := fun k hk => by
                have h1 := O1.out k hk
                have h2 := S01.out
                have h3 := B3.out.size
                omega
              have F4 : Hid (FQ w4 N a4 L4) := Lib.hid (F3.out.lput NZ (by have := hb4.size; exact this) hr4 (by rw [HS3.out]; exact ha4) (by rw [HS3.out]; exact hx4))
              have B4 : Hid (Below S1 X1 w4) := Lib.hid (B3.out.trans (hb4.mono (by have h1 := B3.out.size; rw [HS1.out, HS3.out] at h1; exact h1)))
              clear NZ hr4 hb4 ha4 hx4 hrc hrlS s1 s2 qc1 qc2 qc3
              go_wp2_with fail
              go_roundw
              case rel => exact ⟨i + 1, a4, c4, L4, by omega, by go_num, rfl, R4, F4, B4⟩
              case measure => simp [intOf]; omega
            · have tl : decide (i < rs.length) = false := decide_eq_false hlt2
              obtain rfl : i = rs.length := by omega
              have EL2 : Hid (lputs great wd el rs rs.length = lfoldE great el (rs.map (entR wd))) := Lib.hid (by unfold lputs; rw [List.take_length])
              have LE2 : Hid ((lputs great wd el rs rs.length).length ≤ 60 * (t + 1)) := Lib.hid (by
                have h2 := lputs_len great wd el rs rs.length
                have h3 := LEL.out
                omega)
              obtain ⟨el2, hel2⟩ : ∃ e, lputs great wd el rs rs.length = e := ⟨_, rfl⟩
              rw [hel2] at R2 EL2 LE2
              clear hel2
              have HL2 := Lib.hid R2.out.len
              have WY : Hid (RE Y ra wd el L) := Lib.hid (H1.out.re.below B2'.out)
              have BBY : Hid (BB B w Y N g wd great eb) := Lib.hid (H1.out.bb.next B2'.out)
              obtain ⟨E, hE⟩ : ∃ E, Y.heap.size = E := ⟨_, rfl⟩
              have HE := Lib.hid hE
              have T0 : Hid (UL E (Y.alloc (.cells #[] 40)) (.slice (some ⟨Y.heap.size, 0, none⟩) 0 0) []) := Lib.hid (UL.nil E Y (Nat.le_of_eq hE.symm))
              have B0 : Hid (Below E Y (Y.alloc (.cells #[] 40))) := Lib.hid ((Below.refl _ _).alloc (Nat.le_of_eq hE.symm) _)
              clear hE sg B2'
              go_wp2_with fail
              rw [HE.out] at T0 ⊢
              generalize World.alloc Y _ = Y1 at *
              go_loopw [72, 15] (fun s v wr => ∃ (j : Nat) (u : Value) (K : List RV), j ≤ L2.length ∧ s = .int .i64 j ∧ u = v ∧ K.length ≤ j ∧ Hid (UL E wr u K) ∧ Hid (K.map (·.2.1) = (news el (el2.take j)).map rowE) ∧ Hid (∀ x ∈ K, x ∈ L2) ∧ Hid (Below E Y wr)) (fun s _ _ => L2.length - (intOf s).toNat)
              case atStart => exact ⟨0, _, [], Nat.zero_le _, rfl, rfl, Nat.le_refl _, T0, Lib.hid (by simp [news]), Lib.hid (fun x hx => by cases hx), B0⟩
              case round =>
                obtain ⟨j, u, K, hj, rfl, rfl, hKj, HU, HK, HKL, HBl⟩ := hrel
                obtain ⟨Z, rfl⟩ : ∃ x, x = wr := ⟨wr, rfl⟩
                have hEZ : E ≤ Z.heap.size := by have := HBl.out.size; rw [HE.out] at this; exact this
                by_cases hlt3 : j < L2.length
                · have hX := R2.out.belowB HE.out HBl.out
                  obtain ⟨b, off, hla, hbl, hcell, hrow, hcp⟩ := hX.rr.at hlt3
                  obtain ⟨⟨k, c⟩, he, hre, hkl, _⟩ := hX.at hlt3
                  cases hla
                  have NT := Lib.hid (news_take (es := el) he)
                  have XM : Hid (atV L2 j ∈ L2) := Lib.hid (atV_mem hlt3)
                  have RA : Hid ((atV L2 j).2.1 = rowE (k, c)) := Lib.hid hre
                  rw [hre] at hcell hrow hcp
                  have hrl : (rowE (k, c)).length = wd + 1 := by simp [rowE]; exact hkl
                  rw [hrl] at hcell hcp
                  obtain ⟨rb, ro, hra, hrlt, hrc, hrk⟩ := row_last hrow
                  simp only at hkl
                  rw [hkl] at hrc
                  have WZ := WY.out.belowB HE.out HBl.out
                  have FX : Hid (∀ p, (atV L2 j).1 = some p → p.block < Z.heap.size ∧ u.ownBlock ≠ some p.block) := Lib.hid (fun p hp => by
                    have h1 := (F2.out.el _ (atV_mem hlt3) p hp).2
                    rw [HE.out] at h1
                    exact ⟨by omega, fun e => by have := (HU.out.own.lt _ e).1; omega⟩)
                  have RX := Lib.hid hrow
                  have CX : Hid ((rowE (k, c)).length ≤ (atV L2 j).2.2) := Lib.hid (by rw [hrl]; exact hcp)
                  have cp := place_calls rc WZ (atV L2 j).1 (atV L2 j).2.2 k hrk hkl (by omega) (by have h1 := HLL.out; have h2 := LEL.out; omega)
                  rw [hkl] at cp
                  have qc1 : (wd : Int) ≤ ((atV L2 j).2.2 : Int) := by omega
                  have qc2 : ¬ (atV L2 j).2.2 = 0 := by omega
                  have qc3 : (wd : Int) < (wd : Int) + 1 := by omega
                  clear he hre hrow hX hrl hcp hbl hrlt hrk
                  generalize atV L2 j = x at *
                  obtain ⟨xa, xz, xc⟩ := x
                  simp only at hcell RA CX FX qc1 qc2 cp XM hra RX
                  obtain rfl := RA.out
                  clear RA
                  have ERL : Hid ((rowE (k, c)).length = wd + 1) := Lib.hid (by simp [rowE]; exact hkl)
                  subst hra
                  clear hkl
                  go_wp2_with fail
                  refine cp.mono ?_
                  rintro e Z1 ⟨rfl, q0, hq0⟩
                  have BZ1 : Hid (Below Z.heap.size Z Z1) := Lib.hid (by rw [hq0]; exact below_drewN (Below.refl _ _) q0)
                  have d1 : Z1.cell? ⟨rb, ro + wd, none⟩ = some (.int .i64 c) := by rw [hq0]; simpa using hrc
                  have WZ1 := WZ.below BZ1.out
                  have U1 := Lib.hid (HU.out.below BZ1.out)
                  have RX1 := Lib.hid (RX.out.below BZ1.out)
                  have HBl1 : Hid (Below E Y Z1) := Lib.hid (HBl.out.trans (BZ1.out.mono hEZ))
                  clear cp hq0 hrc hcell RX WZ HU HBl
                  cases hlk : lookE el k with
                  | none =>
                    have e1 : placeE el k = -1 := by unfold placeE; rw [hlk]; rfl
                    have NE : Hid (news el (el2.take (j + 1)) = news el (el2.take j) ++ [(k, c)]) := Lib.hid (by rw [NT.out]; simp [hlk])
                    rw [e1]
                    clear e1 hlk NT WZ1
                    have QF : Hid (∀ q, UL E (Z1.drewN q) u K ∧ Row (Z1.drewN q) (some (⟨rb, ro, none⟩ : Addr)) (rowE (k, c)) ∧ Below E Y (Z1.drewN q) ∧ (∀ p, (some (⟨rb, ro, none⟩ : Addr)) = some p → p.block < (Z1.drewN q).heap.size ∧ u.ownBlock ≠ some p.block) ∧ E ≤ (Z1.drewN q).heap.size) := Lib.hid (fun q => by
                      have bq := below_drewN (Below.refl Z1.heap.size Z1) q
                      have h1 := BZ1.out.size
                      have h2 := bq.size
                      have h3 := U1.out.below bq
                      exact ⟨h3, RX1.out.below bq, HBl1.out.trans (bq.mono (by omega)), fun p hp => ⟨by have := (FX.out p hp).1; omega, (FX.out p hp).2⟩, by omega⟩)
                    clear U1 RX1 BZ1 HBl1
                    go_wp2_with fail
                    go_quiet (fail)
                    rename_i qd
                    obtain ⟨U9, RX9, B9, F9, hE9⟩ := QF.out _
                    have U9 := Lib.hid U9
                    have RX9 := Lib.hid RX9
                    have B9 := Lib.hid B9
                    have F9 := Lib.hid F9
                    generalize World.drewN Z1 _ = Z2 at *
                    clear QF
                    go_wp2_with (first | (at_builtin; refine wpList_append_own_at _ rfl _ _ 22 rfl E 40 i0 (.slice none 0 0) 1 24 Try.underlying22 I.out Z0.out Z1'.out Z2'.out rfl (by decide) _ _ _ rfl (U9.out.own.alloc _) ⟨Z2.heap.size, 0, none⟩ 1 1 [.slice (some (⟨rb, ro, none⟩ : Addr)) (wd + 1) xc] rfl rfl ?na1 ?na2 ?na3 ?na4 ?na5 ?_))
                    case na1 => exact cell_one_new Z2 _ _
                    case na2 => intro u hu; simp at hu; subst hu; rfl
                    case na3 => unfold maxLen; omega
                    case na4 => omega
                    case na5 => simp; omega
                    intro v1 w7 hown hgrow _ hat
                    have ee : (Value.slice (some (⟨rb, ro, none⟩ : Addr)) (wd + 1) xc) = encV ((some (⟨rb, ro, none⟩ : Addr)), rowE (k, c), xc) := by unfold encV; rw [ERL.out]
                    rw [ee] at hown
                    clear ee
                    have U7 := Lib.hid (U9.out.push (x := ((some (⟨rb, ro, none⟩ : Addr)), rowE (k, c), xc)) RX9.out CX.out F9.out hown hgrow (by simpa using hat))
                    have B7 := Lib.hid (U9.out.belowW B9.out hE9 hgrow)
                    clear hown hgrow hat
                    go_wp2_with fail
                    go_roundw
                    case rel => exact ⟨j + 1, _, K ++ [((some (⟨rb, ro, none⟩ : Addr)), rowE (k, c), xc)], by omega, by go_num, rfl, by simp; omega, U7, Lib.hid (by rw [List.map_append, HK.out, NE.out, List.map_append]; rfl), Lib.hid (fun x hx => by
                      rcases List.mem_append.1 hx with h | h
                      · exact HKL.out x h
                      · simp at h; rw [h]; exact XM.out), B7⟩
                    case measure => simp [intOf]; omega
                  | some d =>
                    have e1 : placeE el k = (spotE el k : Int) := by unfold placeE; rw [hlk]; rfl
                    have hsl := spot_lt hlk
                    have hsa := spot_at hlk
                    obtain ⟨i9, hi0⟩ : ∃ i, spotE el k = i := ⟨_, rfl⟩
                    rw [hi0] at e1 hsl hsa
                    rw [e1]
                    have hsL : i9 < L.length := by rw [HLL.out]; exact hsl
                    obtain ⟨wb, wo, hwa, _, wcell, wrow, _⟩ := WZ1.rr.at hsL
                    obtain ⟨e9, he9, hre9, hkl9, _⟩ := WZ1.at hsL
                    rw [hsa] at he9
                    cases he9
                    subst hwa
                    simp only at hkl9
                    rw [hre9] at wcell wrow
                    rw [show (rowE (k, d)).length = wd + 1 by simp [rowE]; exact hkl9] at wcell
                    obtain ⟨vb, vo, hva, _, vcell, _⟩ := row_last wrow
                    rw [hva] at wcell
                    rw [hkl9] at vcell
                    generalize (atV L i9).2.2 = vc at *
                    clear e1 hsa hi0 hre9 hkl9 wrow hva WZ1
                    by_cases hdc : d = c
                    · have tb : ((d : Int) != c) = false := by rw [hdc]; simp
                      have NE : Hid (news el (el2.take (j + 1)) = news el (el2.take j)) := Lib.hid (by rw [NT.out]; simp [hlk, hdc])
                      clear hlk NT hdc
                      have QF : Hid (∀ q, UL E (Z1.drewN q) u K ∧ Row (Z1.drewN q) (some (⟨rb, ro, none⟩ : Addr)) (rowE (k, c)) ∧ Below E Y (Z1.drewN q) ∧ (∀ p, (some (⟨rb, ro, none⟩ : Addr)) = some p → p.block < (Z1.drewN q).heap.size ∧ u.ownBlock ≠ some p.block) ∧ E ≤ (Z1.drewN q).heap.size) := Lib.hid (fun q => by
                        have bq := below_drewN (Below.refl Z1.heap.size Z1) q
                        have h1 := BZ1.out.size
                        have h2 := bq.size
                        have h3 := U1.out.below bq
                        exact ⟨h3, RX1.out.below bq, HBl1.out.trans (bq.mono (by omega)), fun p hp => ⟨by have := (FX.out p hp).1; omega, (FX.out p hp).2⟩, by omega⟩)
                      clear U1 RX1 BZ1 HBl1
                      go_wp2_with fail
                      go_quiet (fail)
                      rename_i qd
                      obtain ⟨U9, RX9, B9, F9, hE9⟩ := QF.out _
                      have U9 := Lib.hid U9
                      have RX9 := Lib.hid RX9
                      have B9 := Lib.hid B9
                      have F9 := Lib.hid F9
                      generalize World.drewN Z1 _ = Z2 at *
                      clear QF
                      go_wp2_with fail
                      go_roundw
                      case rel => exact ⟨j + 1, u, K, by omega, by go_num, rfl, by omega, U9, Lib.hid (by rw [HK.out, NE.out]), HKL, B9⟩
                      case measure => simp [intOf]; omega
                    · have tb : ((d : Int) != c) = true := by rw [bne_iff_ne]; exact hdc
                      have NE : Hid (news el (el2.take (j + 1)) = news el (el2.take j) ++ [(k, c)]) := Lib.hid (by rw [NT.out]; simp [hlk, hdc])
                      clear hlk NT hdc
                      have QF : Hid (∀ q, UL E (Z1.drewN q) u K ∧ Row (Z1.drewN q) (some (⟨rb, ro, none⟩ : Addr)) (rowE (k, c)) ∧ Below E Y (Z1.drewN q) ∧ (∀ p, (some (⟨rb, ro, none⟩ : Addr)) = some p → p.block < (Z1.drewN q).heap.size ∧ u.ownBlock ≠ some p.block) ∧ E ≤ (Z1.drewN q).heap.size) := Lib.hid (fun q => by
                        have bq := below_drewN (Below.refl Z1.heap.size Z1) q
                        have h1 := BZ1.out.size
                        have h2 := bq.size
                        have h3 := U1.out.below bq
                        exact ⟨h3, RX1.out.below bq, HBl1.out.trans (bq.mono (by omega)), fun p hp => ⟨by have := (FX.out p hp).1; omega, (FX.out p hp).2⟩, by omega⟩)
                      clear U1 RX1 BZ1 HBl1
                      go_wp2_with fail
                      go_quiet (fail)
                      rename_i qd
                      obtain ⟨U9, RX9, B9, F9, hE9⟩ := QF.out _
                      have U9 := Lib.hid U9
                      have RX9 := Lib.hid RX9
                      have B9 := Lib.hid B9
                      have F9 := Lib.hid F9
                      generalize World.drewN Z1 _ = Z2 at *
                      clear QF
                      go_wp2_with (first | (at_builtin; refine wpList_append_own_at _ rfl _ _ 22 rfl E 40 i0 (.slice none 0 0) 1 24 Try.underlying22 I.out Z0.out Z1'.out Z2'.out rfl (by decide) _ _ _ rfl (U9.out.own.alloc _) ⟨Z2.heap.size, 0, none⟩ 1 1 [.slice (some (⟨rb, ro, none⟩ : Addr)) (wd + 1) xc] rfl rfl ?nb1 ?nb2 ?nb3 ?nb4 ?nb5 ?_))
                      case nb1 => exact cell_one_new Z2 _ _
                      case nb2 => intro u hu; simp at hu; subst hu; rfl
                      case nb3 => unfold maxLen; omega
                      case nb4 => omega
                      case nb5 => simp; omega
                      intro v1 w7 hown hgrow _ hat
                      have ee : (Value.slice (some (⟨rb, ro, none⟩ : Addr)) (wd + 1) xc) = encV ((some (⟨rb, ro, none⟩ : Addr)), rowE (k, c), xc) := by unfold encV; rw [ERL.out]
                      rw [ee] at hown
                      clear ee
                      have U7 := Lib.hid (U9.out.push (x := ((some (⟨rb, ro, none⟩ : Addr)), rowE (k, c), xc)) RX9.out CX.out F9.out hown hgrow (by simpa using hat))
                      have B7 := Lib.hid (U9.out.belowW B9.out hE9 hgrow)
                      clear hown hgrow hat
                      go_wp2_with fail
                      go_roundw
                      case rel => exact ⟨j + 1, _, K ++ [((some (⟨rb, ro, none⟩ : Addr)), rowE (k, c), xc)], by omega, by go_num, rfl, by simp; omega, U7, Lib.hid (by rw [List.map_append, HK.out, NE.out, List.map_append]; rfl), Lib.hid (fun x hx => by
                        rcases List.mem_append.1 hx with h | h
                        · exact HKL.out x h
                        · simp at h; rw [h]; exact XM.out), B7⟩
                      case measure => simp [intOf]; omega
                · have tl2 : decide (j < L2.length) = false := decide_eq_false hlt3
                  obtain rfl : j = L2.length := by omega
                  have HK2 : Hid (K.map (·.2.1) = (news el el2).map rowE) := Lib.hid (by rw [HK.out, HL2.out, List.take_length])
                  obtain ⟨ua, uc, rfl, _⟩ := HU.out.rrow
                  have bYZ : Below Y.heap.size Y Z := by rw [HE.out]; exact HBl.out
                  have BBZ := Lib.hid (BBY.out.next bYZ)
                  have LX1Y : Later X.heap.size X1 Z := ((Later.refl X.heap.size X1).below (by rw [HS1.out]; exact B2.out)).below bYZ
                  have NLT : Hid (∀ k, N k → k < E) := Lib.hid (fun k hk => by
                    have h1 := O1.out k hk
                    have h2 := S01.out
                    have h3 := B2.out.size
                    rw [HE.out] at h3
                    omega)
                  have hlen2 : L2.length ≤ 540 := by have h1 := HL2.out; have h2 := LE2.out; omega
                  have LEB2 : Hid ((foldE great eb (rs.map (entR wd))).length ≤ 60 * (t + 1)) := Lib.hid (by
                    have h1 := fold_len great eb (rs.map (entR wd))
                    rw [List.length_map] at h1
                    have h2 := LEB.out
                    omega)
                  have SAME : Hid (∀ k, lookE (foldE great eb (rs.map (entR wd))) k = lookE el2 k) := Lib.hid (by rw [EL2.out]; exact fold_same WY.out.ok.dist H1.out.same _)
                  obtain ⟨eb2, heb2⟩ : ∃ e, foldE great eb (rs.map (entR wd)) = e := ⟨_, rfl⟩
                  rw [heb2] at LEB2 SAME
                  have ca := badd3_calls BBZ.out.b (p := p1) (rs := rs) (fun W hk => G1.out W (LX1Y.step hk (fun k hk => by
                    rcases hk with hk | hk
                    · exact .inl (O1.out k hk)
                    · exact .inr (Nat.le_trans LX1Y.1 hk)))) RG.out (by omega) (by omega) (by have := LEB.out; omega) heb2 rfl
                  have UK : Hid (∀ V, Keeps N Z V → UL E V (.slice ua K.length uc) K) := Lib.hid (fun V hk => HU.out.keeps hk (fun b hb hn => by have h1 := (HU.out.own.lt b hb).1; have h2 := NLT.out b hn; omega) (fun x hx p hp => (F2.out.el x (HKL.out x hx) p hp).1))
                  have WIDE : Hid (∀ x ∈ K, x.2.1.length ≤ 1000000) := Lib.hid (fun x hx => by
                    have h1 : x.2.1 ∈ L2.map (·.2.1) := List.mem_map_of_mem (HKL.out x hx)
                    rw [R2.out.cont] at h1
                    obtain ⟨e9, he9, h2⟩ := List.mem_map.1 h1
                    rw [← h2]
                    have h3 := R2.out.ok.len e9 he9
                    simp [rowE, h3]; omega)
                  have RZ := Lib.hid (R2.out.below bYZ)
                  have FZ := Lib.hid (F2.out.grow bYZ.size)
                  have BZ := Lib.hid bYZ
                  clear heb2 LX1Y bYZ HK HU
                  go_wp2_with fail
                  refine ca.mono ?_
                  rintro e V ⟨p2, L4, N4, rfl, hL1, hL2', hl4, hb4, hn4, hk4⟩
                  have H4 := Lib.hid (BBZ.out.more hb4 (fun k hk => (hn4 k hk).1) hk4)
                  have NS : Hid (relOf ((wd + 1 : Nat) : Int) ((news eb eb2).map rowE) = relOf ((wd + 1 : Nat) : Int) (K.map (·.2.1))) := Lib.hid (by rw [HK2.out]; exact news_same hb4.ok.dist R2.out.ok.dist H1.out.same SAME.out)
                  rw [NS.out] at hl4
                  have RV4 := Lib.hid (RZ.out.keeps hk4 FZ.out.fp)
                  have FV4 := Lib.hid (FZ.out.more hk4.size (fun k hk => (hn4 k hk).1))
                  obtain ⟨ua', uc', hu', hRR⟩ := (UK.out V hk4).rrow
                  cases hu'
                  have cs := sorted_calls2 (wd + 1) ua uc K V hRR (by omega) (by omega) WIDE.out
                  have hrl9 : (relOf ((wd + 1 : Nat) : Int) (K.map (·.2.1))).length ≤ 1000 := by have h9 := rel_len ((wd + 1 : Nat) : Int) (K.map (·.2.1)); rw [List.length_map] at h9; omega
                  have G4 := Lib.hid hl4
                  clear ca hL1 hL2' hl4 hb4 hn4 hk4 hRR UK WIDE
                  obtain ⟨R9, hR9⟩ : ∃ R, relOf ((wd + 1 : Nat) : Int) (K.map (·.2.1)) = R := ⟨_, rfl⟩
                  unfold SortRet2 at cs
                  rw [hR9] at cs G4 hrl9
                  clear hR9 NS
                  have ec : ((wd + 1 : Nat) : Int) = (wd : Int) + 1 := by omega
                  rw [ec] at cs
                  clear ec
                  go_wp2_with fail
                  refine cs.mono ?_
                  rintro e V2 ⟨g2, c2, L9, rfl, hc9, hr9, _, hb9⟩
                  have ci := is_calls (G4.out V2 ((Later.refl _ _).below hb9)) (some ⟨g2, 0, none⟩) c2 L9 hr9 (by omega) hrl9 hc9.symm
                  have H5 := Lib.hid (H4.out.next hb9)
                  have RV5 := Lib.hid (RV4.out.below hb9)
                  have FV5 := Lib.hid (FV4.out.grow hb9.size)
                  clear cs hc9 hr9 hb9 hrl9
                  go_wp2_with fail
                  refine ci.mono ?_
                  rintro e V3 ⟨rfl, hb9⟩
                  have AX9 : Hid (AX B w V3 N4 g wd great eb2 el2 ra2 L2) := Lib.hid ⟨H5.out.next hb9, RV5.out.below hb9, FV5.out.grow hb9.size, SAME.out⟩
                  clear ci hb9
                  go_wp2_with fail
                  go_roundw
                  case rel => exact ⟨t + 1, N4, eb2, el2, ra2, rc2, L2, by omega, by go_num, rfl, LE2, LEB2, AX9⟩
                  case measure => simp [intOf]; omega
      · have tl : decide (t < T.length) = false := decide_eq_false hlt
        have hlL : L.length ≤ 540 := by have h1 := HLL.out; have h2 := LEL.out; omega
        go_wp2_with (first | (refine wpList_make_full _ rfl _ _ 40 rfl 0 2 i1 (.int .i64 0) 1 Try.underlying40 I2.out Y0.out Y1.out .i64 .i64 _ _ (wd + 2) rfl rfl ?la1 ?la2 ?la3 ?la4 ?la5 ?_))
        case la1 => omega
        case la2 => omega
        case la3 => rw [Y2.out]; omega
        case la4 => unfold maxLen; omega
        case la5 => omega
        intro M hown hgr
        have hown2 : M.ownsRow 0 2 1 (.slice (some ⟨X.heap.size, 0, none⟩) (wd + 2) (wd + 2)) (wd + 2) ((List.replicate (wd + 2) (0 : Int)).map (Value.int .i64)) := by
          have h5 := row_heap hown
          exact heap_row (by rw [← made_ints]; exact h5) (by simp) (by unfold maxLen; omega)
        obtain ⟨ma, mc, hme, hmr⟩ := row_of_owns hown2
        have hma : ma = some ⟨X.heap.size, 0, none⟩ := by injection hme with h1 h2 h3; exact h1.symm
        subst hma
        have bXM : Below X.heap.size X M := grown_below hgr (Nat.le_refl _)
        have HM := Lib.hid (HX.out.next bXM)
        have hzl : (List.replicate (wd + 2) (0 : Int)).length = wd + 2 := by simp
        have rr := rrow_single (c := wd + 2) hmr (by simp)
        rw [hzl] at rr
        have HM2 := Lib.hid (HM.out.next ((Below.refl M.heap.size M).alloc (Nat.le_refl _) (.cells #[.slice (some ⟨X.heap.size, 0, none⟩) (wd + 2) (wd + 2)] 40)))
        have cm := make_later (wd + 2) (some ⟨M.heap.size, 0, none⟩) 1 [(some ⟨X.heap.size, 0, none⟩, List.replicate (wd + 2) (0 : Int), wd + 2)] _ rr (by omega) (by simp) (by intro x hx; simp at hx; subst hx; simp; omega)
        have hr1 := rel_len ((wd + 2 : Nat) : Int) ([((some ⟨X.heap.size, 0, none⟩, List.replicate (wd + 2) (0 : Int), wd + 2) : RV)].map (·.2.1))
        obtain ⟨rs, hrs⟩ : ∃ rs, relOf ((wd + 2 : Nat) : Int) ([((some ⟨X.heap.size, 0, none⟩, List.replicate (wd + 2) (0 : Int), wd + 2) : RV)].map (·.2.1)) = rs := ⟨_, rfl⟩
        rw [hrs] at cm hr1
        have hr2 : rs.length ≤ 1 := by simpa using hr1
        have ec : ((wd + 2 : Nat) : Int) = (wd : Int) + 2 := by omega
        rw [ec] at cm
        clear ec hrs hr1 rr hzl hmr hown hown2 hgr bXM HM HX hme
        go_wp2_with fail
        generalize World.alloc M _ = M2 at *
        refine cm.mono ?_
        rintro e V ⟨p1, rfl, hl1, hb1⟩
        have H1 := Lib.hid (HM2.out.next hb1)
        have ca := baddW_calls H1.out.bb.b (p := p1) (rs := rs) (w2 := wd + 1) (by omega) (by omega) (fun W hk => hl1 W ((Later.refl _ _).step hk (fun k hk => by
          rcases hk with hk | hk
          · exact .inl (HM2.out.bb.b.lt k hk)
          · exact .inr hk))) (by omega) (by omega) (by have := LEB.out; omega)
        clear cm hl1 hb1
        go_wp2_with fail
        refine ca.mono ?_
        rintro e V2 ⟨p2, L4, N4, rfl, hL1, hL2', hl4, hb4, hn4, hk4⟩
        have A4 : Hid (AX B w V2 N4 g wd great eb el ra L) := Lib.hid ⟨H1.out.bb.more hb4 (fun k hk => (hn4 k hk).1) hk4, H1.out.re.keeps hk4 H1.out.fq.fp, H1.out.fq.more hk4.size (fun k hk => (hn4 k hk).1), H1.out.same⟩
        have s5 := hl4 V2 (Later.refl _ _)
        have c5 := segLen_calls s5
        have WIDE : Hid (∀ x ∈ L, x.2.1.length ≤ 1000000) := Lib.hid (fun x hx => by
          have h1 : x.2.1 ∈ L.map (·.2.1) := List.mem_map_of_mem hx
          rw [A4.out.re.cont] at h1
          obtain ⟨e9, he9, h2⟩ := List.mem_map.1 h1
          rw [← h2]
          have h3 := A4.out.re.ok.len e9 he9
          simp [rowE, h3]; omega)
        clear ca hL1 hL2' hl4 hb4 hn4 hk4 s5 H1 HM2
        go_wp2_with fail
        refine c5.mono ?_
        rintro e w' ⟨rfl, rfl⟩
        have cs := bseg_calls A4.out.bb.b (by omega) (by have := LEB.out; omega)
        rw [rel_look A4.out.bb.b.ok.dist A4.out.re.ok.dist A4.out.same, ← A4.out.re.cont] at cs
        have hrl9 : (relOf ((wd + 1 : Nat) : Int) (L.map (·.2.1))).length ≤ 1000 := by have h9 := rel_len ((wd + 1 : Nat) : Int) (L.map (·.2.1)); rw [List.length_map] at h9; omega
        obtain ⟨R9, hR9⟩ : ∃ R, relOf ((wd + 1 : Nat) : Int) (L.map (·.2.1)) = R := ⟨_, rfl⟩
        have HR9 := Lib.hid hR9
        rw [hR9] at cs hrl9
        clear hR9 c5
        go_wp2_with fail
        refine cs.mono ?_
        rintro e V3 ⟨p3, rfl, hl3, hb3⟩
        have A5 := Lib.hid (A4.out.next hb3)
        have ct := sorted_calls2 (wd + 1) ra rc L V3 A5.out.re.rr (by omega) (by omega) WIDE.out
        unfold SortRet2 at ct
        rw [HR9.out] at ct
        have ec : ((wd + 1 : Nat) : Int) = (wd : Int) + 1 := by omega
        rw [ec] at ct
        have G3 := Lib.hid hl3
        clear ec cs hl3 hb3
        go_wp2_with fail
        refine ct.mono ?_
        rintro e V4 ⟨g2, c2, L9, rfl, hc9, hr9, _, hb9⟩
        have ci := is_calls (G3.out V4 ((Later.refl _ _).below hb9)) (some ⟨g2, 0, none⟩) c2 L9 hr9 (by omega) hrl9 hc9.symm
        have A6 := Lib.hid (A5.out.next hb9)
        clear ct hc9 hr9 hb9 hrl9
        go_wp2_with fail
        refine ci.mono ?_
        rintro e V5 ⟨rfl, hb9⟩
        have A7 := Lib.hid (A6.out.next hb9)
        clear ci hb9
        go_wp2_with fail
        go_ret
        exact ⟨rfl, by rw [HB.out]; exact A7.out.bb.bel⟩
end Go.Proofs.Ytcecndjkfdaaaaa
