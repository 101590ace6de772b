/- BestPuts: the law's put at a nil key (mkbs22.py), keys with costs, their opening, the walk. Joined (a claim may hold 60 files). -/
import Derived.Test.YtcecndjkfdaaaaaBs21
import Derived.Test.YtcecndjkfdaaaaaBArg
import Derived.Deep.SlicePairs
namespace Go.Proofs.Ytcecndjkfdaaaaa
open Go.RowKit Go.Maps
set_option linter.unusedVariables false
set_option linter.unusedSimpArgs false

theorem slN {wd : Nat} (h : wd = 0) : Value.slice none wd 0 = .slice none 0 0 := by rw [h]
set_option maxRecDepth 100000 in
set_option maxHeartbeats 4000000 in
theorem lputN_calls {w : World} {a : Option Addr} {wd : Nat} {es : List Ent} {L : List RV} (cap : Nat) (great : Bool) (h : RE w a wd es L) (hw0 : wd = 0) (key : List Int) (cost : Int) (hk : Row w none key) (hkl : key.length = wd) (hkr : InRange key) (hwd : wd ≤ 100) (hL : L.length ≤ 900) :
    Calls Try.prog 27 #[.slice a L.length cap, .bool great, .slice none key.length 0, .int .i64 cost] w (LPutRet a L wd great es key cost w) := by
  obtain ⟨i1, hi', hz0', hz1', hz2'⟩ := info_parts info2
  have I' := Lib.hid hi'
  have Z0' := Lib.hid hz0'
  have Z1' := Lib.hid hz1'
  have Z2' := Lib.hid hz2'
  obtain ⟨i0, hi, hz0, hz1, hz2⟩ := info_parts info23
  have I := Lib.hid hi
  have Z0 := Lib.hid hz0
  have Z1 := Lib.hid hz1
  have Z2 := Lib.hid hz2
  clear hi hz0 hz1 hz2 hi' hz0' hz1' hz2'
  have HR := Lib.hid h
  have HW0 := Lib.hid hw0
  clear hw0
  have HK := Lib.hid hk
  have HKL := Lib.hid hkl
  have OK2 := Lib.hid (h.ok.lput great hkl hkr cost)
  have NL : Hid (∀ x ∈ L, ∀ p, x.1 = some p → p.block < w.heap.size) := Lib.hid (fun x hx p hp => by
    have h1 : x.2.1 ∈ L.map (·.2.1) := List.mem_map_of_mem hx
    rw [h.cont] at h1
    obtain ⟨e, _, e2⟩ := List.mem_map.1 h1
    exact (h.rr.2 x hx).1.lt (by rw [← e2]; simp [rowE]) p hp)
  have cp := place_calls cap h none 0 key hk hkl hwd (by omega)
  rw [hkl] at cp ⊢
  cases hlk : lookE es key with
  | none =>
    have PB : Hid (putB great es key cost = true) := Lib.hid (by unfold putB; rw [hlk])
    have LP : Hid (lputE great es key cost = es ++ [(key, cost)]) := Lib.hid (by unfold lputE; rw [hlk])
    have e1 : placeE es key = -1 := by unfold placeE; rw [hlk]; rfl
    have KCF : Hid (∀ K, skipE L (-1) L.length = K → K.map (·.2.1) = es.map rowE) := Lib.hid (fun K hK => by rw [skip_none] at hK; rw [← hK]; exact HR.out.cont)
    rw [e1] at cp
    clear e1 hlk h hk hkl hkr
    go_enter Try.func27, Try.ntmps27
    go_wp2_with fail
    refine cp.mono ?_
    rintro e X0 ⟨rfl, q0, hq0⟩
    have BW : Hid (Below w.heap.size w X0) := Lib.hid (by rw [hq0]; exact below_drewN (Below.refl _ _) q0)
    clear cp hq0
    obtain ⟨E, hE⟩ : ∃ E, X0.heap.size = E := ⟨_, rfl⟩
    have HE := Lib.hid hE
    have T0 : Hid (UL E (X0.alloc (.cells #[] 40)) (.slice (some ⟨X0.heap.size, 0, none⟩) 0 0) []) := Lib.hid (UL.nil E X0 (Nat.le_of_eq hE.symm))
    have B0 : Hid (Below E X0 (X0.alloc (.cells #[] 40))) := Lib.hid ((Below.refl _ _).alloc (Nat.le_of_eq hE.symm) _)
    have HX0 := Lib.hid (HR.out.below BW.out)
    have KX0 := Lib.hid (HK.out.below BW.out)
    clear hE
    go_wp2_with fail
    rw [HE.out] at T0 ⊢
    generalize World.alloc X0 _ = X1 at *
    go_loopw [37, 11] (fun s v wr => ∃ (j : Nat) (u : Value), j ≤ L.length ∧ s = .int .i64 j ∧ u = v ∧ Hid (UL E wr u (skipE L (-1) j)) ∧ Hid (Below E X0 wr)) (fun s _ _ => L.length - (intOf s).toNat)
    case atStart => exact ⟨0, _, Nat.zero_le _, rfl, rfl, T0, B0⟩
    case round =>
      obtain ⟨j, u, hj, rfl, rfl, HU, HL⟩ := hrel
      obtain ⟨X, rfl⟩ : ∃ x, x = wr := ⟨wr, rfl⟩
      have hEX : E ≤ X.heap.size := by have := HL.out.size; rw [HE.out] at this; exact this
      have hkl9 := skip_len L (-1) j
      by_cases hlt : j < L.length
      · obtain ⟨b, off, hla, hbl, hcell, hrow, hcp⟩ := (HX0.out.rr.belowB HE.out HL.out).at hlt
        have SS := Lib.hid (skip_succ L (-1) j)
        cases hla
        by_cases hji : (j : Int) = (-1)
        · have SK : Hid (skipE L (-1) (j + 1) = skipE L (-1) j) := Lib.hid (by rw [SS.out, if_pos hji]; simp)
          have tj : ((j : Int) != (-1)) = false := by rw [hji]; simp
          have U2 : Hid (UL E X u (skipE L (-1) (j + 1))) := Lib.hid (by rw [SK.out]; exact HU.out)
          clear hji
          go_wp2_with fail
          go_roundw
          case rel => exact ⟨j + 1, u, by omega, by go_num, rfl, U2, HL⟩
          case measure => simp [intOf]; omega
        · have SK : Hid (skipE L (-1) (j + 1) = skipE L (-1) j ++ [atV L j]) := Lib.hid (by rw [SS.out, if_neg hji])
          have tj : ((j : Int) != (-1)) = true := by rw [bne_iff_ne]; exact hji
          have RX := Lib.hid hrow
          have CX := Lib.hid hcp
          have FX : Hid (∀ p, (atV L j).1 = some p → p.block < X.heap.size ∧ u.ownBlock ≠ some p.block) := Lib.hid (fun p hp => by
            have h1 := NL.out _ (atV_mem hlt) p hp
            have h2 := BW.out.size
            rw [HE.out] at h2
            exact ⟨by omega, fun e => by have := (HU.out.own.lt _ e).1; omega⟩)
          clear hji hrow hcp
          generalize atV L j = x at *
          obtain ⟨xa, xz, xc⟩ := x
          simp only at hcell RX CX FX
          generalize skipE L (-1) j = K0 at *
          go_wp2_with (first | (at_builtin; refine wpList_append_own_at _ rfl _ _ 22 rfl E 40 i0 (.slice none 0 0) 1 24 Try.underlying22 I.out Z0.out Z1.out Z2.out rfl (by decide) _ _ _ rfl (HU.out.own.alloc _) ⟨X.heap.size, 0, none⟩ 1 1 [.slice xa xz.length xc] rfl rfl ?la1 ?la2 ?la3 ?la4 ?la5 ?_))
          case la1 => exact cell_one_new X _ _
          case la2 => intro u hu; simp at hu; subst hu; rfl
          case la3 => unfold maxLen; omega
          case la4 => omega
          case la5 => simp; omega
          intro v1 w7 hown hgrow _ hat
          have U7 := Lib.hid (HU.out.push (x := (xa, xz, xc)) RX.out CX.out FX.out hown hgrow (by simpa using hat))
          have B7 := Lib.hid (HU.out.belowW HL.out hEX hgrow)
          rw [← SK.out] at U7
          clear hown hgrow hat hcell
          go_wp2_with fail
          go_roundw
          case rel => exact ⟨j + 1, _, by omega, by go_num, rfl, U7, B7⟩
          case measure => simp [intOf]; omega
      · have tl : decide (j < L.length) = false := decide_eq_false hlt
        obtain rfl : j = L.length := by omega
        have HUX : Hid (UL E X u (skipE L (-1) L.length)) := HU
        have RB : Hid (∀ x ∈ skipE L (-1) L.length, ∀ p, x.1 = some p → p.block < E) := Lib.hid (fun x hx p hp => by
          obtain ⟨t, ht, rfl⟩ := List.mem_map.1 hx
          have h1 : t < L.length := List.mem_range.1 (List.mem_filter.1 ht).1
          have h2 := NL.out _ (atV_mem h1) p hp
          have h3 := BW.out.size
          rw [HE.out] at h3
          omega)
        have KL : Hid (∀ x ∈ skipE L (-1) L.length, x ∈ L) := Lib.hid (fun x hx => by
          obtain ⟨t, ht, rfl⟩ := List.mem_map.1 hx
          exact atV_mem (List.mem_range.1 (List.mem_filter.1 ht).1))
        obtain ⟨K, hK⟩ : ∃ K, skipE L (-1) L.length = K := ⟨_, rfl⟩
        rw [hK] at HUX RB hkl9 KL
        have KC := KCF.out K hK
        have KC := Lib.hid KC
        have hKl : K.length ≤ 1000 := by omega
        have KX := Lib.hid (KX0.out.belowB HE.out HL.out)
        have OE : Hid ((X.alloc (.cells #[] 2)).ownsRow E 2 1 (.slice (some ⟨X.heap.size, 0, none⟩) 0 0) 0 []) := Lib.hid (World.ownsRow_lit (base := E) (e := 2) (size := 1) X #[] 0 hEX (by decide) rfl)
        have LX2 : Hid (Below E X0 (X.alloc (.cells #[] 2))) := Lib.hid (HL.out.alloc hEX _)
        have UX2 := Lib.hid (HUX.out.below ((Below.refl X.heap.size X).alloc (Nat.le_refl _) (.cells #[] 2)))
        have KX2 := Lib.hid (KX.out.alloc (.cells #[] 2))
        have NE0 : Hid (∀ q, u.ownBlock = some q → (Value.slice (some ⟨X.heap.size, 0, none⟩) 0 0).ownBlock ≠ some q) := Lib.hid (fun q hq e => by
          simp only [Value.ownBlock, Option.some.injEq] at e
          have := (HUX.out.own.lt q hq).2; omega)
        clear hK HU HUX KX KCF
        have hEY : E ≤ (X.alloc (.cells #[] 2)).heap.size := by have := LX2.out.size; rw [HE.out] at this; exact this
        go_wp2_with (first | (at_builtin; refine wpList_append_own_none rfl _ _ 40 rfl E 2 i1 1 Try.underlying40 I'.out _ _ _ rfl OE.out ?hxx ?_; case hxx => exact slN HW0.out) | (at_builtin; refine wpList_append_own_at _ rfl _ _ 40 rfl E 2 i1 (.int .i64 0) 1 8 Try.underlying40 I'.out Z0'.out Z1'.out Z2'.out rfl (by decide) _ _ _ rfl (OE.out.alloc _) ⟨X.heap.size + 1, 0, none⟩ 1 1 [.int .i64 cost] rfl rfl ?ka1 ?ka2 ?ka3 ?ka4 ?ka5 ?_))
        case ka1 => (have h77 := cell_one_new (X.alloc (.cells #[] 2)) (.int .i64 cost) 2; rw [show (X.alloc (.cells #[] 2)).heap.size = X.heap.size + 1 by simp] at h77; exact h77)
        case ka2 => intro u hu; simp at hu; subst hu; rfl
        case ka3 => unfold maxLen; omega
        case ka4 => omega
        case ka5 => simp; omega
        intro v1 Y1 hown hgrow _ hat
        have O10 : Hid (Y1.ownsRow E 2 1 v1 (rowE (key, cost)).length ((rowE (key, cost)).map (Value.int .i64))) := Lib.hid (by
          have e9 : (rowE (key, cost)).length = wd + 1 := by simp [rowE, HKL.out]
          rw [e9]
          have := hown
          have hk0 : key = [] := List.eq_nil_of_length_eq_zero (by rw [HKL.out, HW0.out])
          rw [hk0, HW0.out]
          simpa [rowE] using this)
        have hne1 : u.ownBlock ≠ v1.ownBlock ∨ u.ownBlock = none := by
          cases hu : u.ownBlock with
          | none => exact .inr rfl
          | some q =>
            left
            intro e
            have h1 := (UX2.out.own.lt q hu).2
            rcases hat with h2 | h2
            · rw [h2] at e; exact NE0.out q hu e.symm
            · rw [h2] at e; simp at e h1; omega
        have kY : Keeps (fun b => (Value.slice (some ⟨X.heap.size, 0, none⟩) 0 0).ownBlock = some b) (X.alloc (.cells #[] 2)) Y1 := ((Keeps.refl _ (X.alloc (.cells #[] 2))).alloc _).trans (Keeps.of_grown hgrow (fun b hb => hb))
        have UY1 : Hid (UL E Y1 u K) := Lib.hid (UX2.out.keeps kY (fun b hb e => NE0.out b hb e) (fun x hx p hp e => by
          have h1 := (OE.out.lt _ e).1
          have h2 := RB.out x hx p hp
          omega))
        have LY1 : Hid (Below E X0 Y1) := Lib.hid ((LX2.out.alloc hEY _).grown hgrow (by simp; omega) (fun k hk => (OE.out.lt k hk).1))
        obtain ⟨ra, rc, hv1, hrow1, hcp1, hfr1⟩ := fresh_of_owns O10.out
        subst hv1
        have hEY1 : E ≤ Y1.heap.size := Nat.le_trans hEY kY.size
        have F1 : Hid (∀ p, ra = some p → p.block < Y1.heap.size ∧ u.ownBlock ≠ some p.block) := Lib.hid (fun p hp => ⟨(hfr1 p hp).2, fun e => by
          rcases hne1 with h1 | h1
          · exact h1 (by rw [e, hp]; rfl)
          · rw [h1] at e; cases e⟩)
        have R1 := Lib.hid hrow1
        have FB : Hid (∀ p, ra = some p → E ≤ p.block) := Lib.hid (fun p hp => (hfr1 p hp).1)
        have C1 := Lib.hid hcp1
        have e9 : (rowE (key, cost)).length = wd + 1 := by simp [rowE, HKL.out]
        have E9 := Lib.hid e9
        have hlv : (Value.slice ra (rowE (key, cost)).length rc) = .slice ra (wd + 1) rc := by rw [e9]
        rw [e9]
        clear hown hgrow hat kY hrow1 hcp1 hfr1 hne1 UX2 OE LX2 KX2 NE0 e9 hlv
        go_wp2_with (first | (at_builtin; refine wpList_append_own_at _ rfl _ _ 22 rfl E 40 i0 (.slice none 0 0) 1 24 Try.underlying22 I.out Z0.out Z1.out Z2.out rfl (by decide) _ _ _ rfl (UY1.out.own.alloc _) ⟨Y1.heap.size, 0, none⟩ 1 1 [.slice ra (wd + 1) rc] rfl rfl ?ja1 ?ja2 ?ja3 ?ja4 ?ja5 ?_))
        case ja1 => exact cell_one_new Y1 _ _
        case ja2 => first | rfl | (intro u hu; simp at hu; subst hu; rfl)
        case ja3 => unfold maxLen; omega
        case ja4 => omega
        case ja5 => first | omega | (simp; omega)
        intro v2 Y2 hown hgrow _ hat
        have U2 := Lib.hid (UY1.out.push (x := (ra, rowE (key, cost), rc)) R1.out C1.out F1.out (by simp only [encV, E9.out]; exact hown) hgrow (by simpa using hat))
        have B2 := Lib.hid (UY1.out.belowW LY1.out hEY1 hgrow)
        clear hown hgrow hat
        obtain ⟨fa, fc, hv2, hRR⟩ := U2.out.rrow
        subst hv2
        have HRR := Lib.hid hRR
        have LK : Hid ((K ++ [(ra, rowE (key, cost), rc)]).length = K.length + 1) := Lib.hid (by simp)
        clear hRR
        go_wp2_with fail
        go_ret2
        refine ⟨fa, fc, K ++ [(ra, rowE (key, cost), rc)], ret_lput PB.out.symm, ⟨HRR.out, ?_, OK2.out⟩, BW.out.trans (B2.out.mono (by have := BW.out.size; rw [HE.out] at this; exact this)), .inr (fun p hp => ?_), fun x hx => ?_⟩
        · rw [LP.out, List.map_append, List.map_append, KC.out]
          rfl
        · have h1 := (U2.out.own.lt p.block (by rw [hp]; rfl)).1
          have h2 := BW.out.size
          rw [HE.out] at h2
          omega
        · rcases List.mem_append.1 hx with hx | hx
          · exact .inl (KL.out x hx)
          · obtain rfl : x = (ra, rowE (key, cost), rc) := by simpa using hx
            refine .inr (fun p hp => ?_)
            have h1 := FB.out p hp
            have h2 := BW.out.size
            rw [HE.out] at h2
            omega
  | some d =>
    obtain ⟨z0, hz0⟩ : ∃ i, spotE es key = i := ⟨_, rfl⟩
    have hsl := spot_lt hlk
    have hat := spot_at hlk
    rw [hz0] at hsl hat
    have hsL : z0 < L.length := by rw [h.len]; exact hsl
    have e1 : placeE es key = (z0 : Int) := by unfold placeE; rw [hlk, hz0]; rfl
    rw [e1] at cp
    have HAT := Lib.hid hat
    cases hbt : betterB great cost d
    · have PB : Hid (putB great es key cost = false) := Lib.hid (by unfold putB; rw [hlk]; exact hbt)
      have LP : Hid (lputE great es key cost = es) := Lib.hid (by unfold lputE; rw [hlk]; simp [hbt])
      have cb := better_law great cost d
      rw [hbt] at cb
      clear e1 hlk h hk hkl hkr hz0 hsl hat hbt
      go_enter Try.func27, Try.ntmps27
      go_wp2_with fail
      refine cp.mono ?_
      rintro e X0 ⟨rfl, q0, hq0⟩
      have BW : Hid (Below w.heap.size w X0) := Lib.hid (by rw [hq0]; exact below_drewN (Below.refl _ _) q0)
      have HX := HR.out.below BW.out
      obtain ⟨b, off, hla, _, hcell, hrow, _⟩ := HX.rr.at hsL
      obtain ⟨e9, he9, hre, hel9, _⟩ := HX.at hsL
      rw [HAT.out] at he9
      cases he9
      rw [hre] at hcell hrow
      have hr9 : (rowE (key, d)).length = wd + 1 := by simp [rowE, HKL.out]
      obtain ⟨rb, ro, hra, _, hrc⟩ := hrow.at (k := wd) (by omega)
      have hcd : (rowE (key, d))[wd]?.getD 0 = d := by simp [rowE, ← HKL.out]
      rw [hcd] at hrc
      rw [hr9, hra] at hcell
      cases hla
      have q7 : (wd : Int) < (wd : Int) + 1 := by omega
      have HX2 := Lib.hid HX
      clear cp hq0 HX hrow hre hr9 hcd hra
      go_wp2_with fail
      refine (cb X0).mono ?_
      rintro e w' ⟨rfl, rfl⟩
      go_wp2_with fail
      go_ret2
      exact ⟨_, _, L, ret_lput PB.out.symm, by rw [LP.out]; exact HX2.out, BW.out, .inl rfl, fun x hx => .inl hx⟩
    · have PB : Hid (putB great es key cost = true) := Lib.hid (by unfold putB; rw [hlk]; exact hbt)
      have LP : Hid (lputE great es key cost = es.eraseIdx z0 ++ [(key, cost)]) := Lib.hid (by unfold lputE; rw [hlk, hz0]; simp [hbt])
      have KCF : Hid (∀ K, skipE L (z0 : Int) L.length = K → K.map (·.2.1) = (es.eraseIdx z0).map rowE) := Lib.hid (fun K hK => by rw [skip_at] at hK; rw [← hK]; exact map_erase HR.out.cont z0)
      have cb := better_law great cost d
      rw [hbt] at cb
      clear e1 hlk h hk hkl hkr hz0 hsl hat hbt
      go_enter Try.func27, Try.ntmps27
      go_wp2_with fail
      refine cp.mono ?_
      rintro e X0 ⟨rfl, q0, hq0⟩
      have BW : Hid (Below w.heap.size w X0) := Lib.hid (by rw [hq0]; exact below_drewN (Below.refl _ _) q0)
      have HX := HR.out.below BW.out
      obtain ⟨b, off, hla, _, hcell, hrow, _⟩ := HX.rr.at hsL
      obtain ⟨e9, he9, hre, hel9, _⟩ := HX.at hsL
      rw [HAT.out] at he9
      cases he9
      rw [hre] at hcell hrow
      have hr9 : (rowE (key, d)).length = wd + 1 := by simp [rowE, HKL.out]
      obtain ⟨rb, ro, hra, _, hrc⟩ := hrow.at (k := wd) (by omega)
      have hcd : (rowE (key, d))[wd]?.getD 0 = d := by simp [rowE, ← HKL.out]
      rw [hcd] at hrc
      rw [hr9, hra] at hcell
      cases hla
      have q7 : (wd : Int) < (wd : Int) + 1 := by omega
      clear cp hq0 HX hrow hre hr9 hcd hra
      go_wp2_with fail
      refine (cb X0).mono ?_
      rintro e w' ⟨rfl, rfl⟩
      clear hcell hrc
      obtain ⟨E, hE⟩ : ∃ E, X0.heap.size = E := ⟨_, rfl⟩
      have HE := Lib.hid hE
      have T0 : Hid (UL E (X0.alloc (.cells #[] 40)) (.slice (some ⟨X0.heap.size, 0, none⟩) 0 0) []) := Lib.hid (UL.nil E X0 (Nat.le_of_eq hE.symm))
      have B0 : Hid (Below E X0 (X0.alloc (.cells #[] 40))) := Lib.hid ((Below.refl _ _).alloc (Nat.le_of_eq hE.symm) _)
      have HX0 := Lib.hid (HR.out.below BW.out)
      have KX0 := Lib.hid (HK.out.below BW.out)
      clear hE
      go_wp2_with fail
      rw [HE.out] at T0 ⊢
      generalize World.alloc X0 _ = X1 at *
      go_loopw [37, 11] (fun s v wr => ∃ (j : Nat) (u : Value), j ≤ L.length ∧ s = .int .i64 j ∧ u = v ∧ Hid (UL E wr u (skipE L (z0 : Int) j)) ∧ Hid (Below E X0 wr)) (fun s _ _ => L.length - (intOf s).toNat)
      case atStart => exact ⟨0, _, Nat.zero_le _, rfl, rfl, T0, B0⟩
      case round =>
        obtain ⟨j, u, hj, rfl, rfl, HU, HL⟩ := hrel
        obtain ⟨X, rfl⟩ : ∃ x, x = wr := ⟨wr, rfl⟩
        have hEX : E ≤ X.heap.size := by have := HL.out.size; rw [HE.out] at this; exact this
        have hkl9 := skip_len L (z0 : Int) j
        by_cases hlt : j < L.length
        · obtain ⟨b, off, hla, hbl, hcell, hrow, hcp⟩ := (HX0.out.rr.belowB HE.out HL.out).at hlt
          have SS := Lib.hid (skip_succ L (z0 : Int) j)
          cases hla
          by_cases hji : (j : Int) = (z0 : Int)
          · have SK : Hid (skipE L (z0 : Int) (j + 1) = skipE L (z0 : Int) j) := Lib.hid (by rw [SS.out, if_pos hji]; simp)
            have tj : ((j : Int) != (z0 : Int)) = false := by rw [hji]; simp
            have U2 : Hid (UL E X u (skipE L (z0 : Int) (j + 1))) := Lib.hid (by rw [SK.out]; exact HU.out)
            clear hji
            go_wp2_with fail
            go_roundw
            case rel => exact ⟨j + 1, u, by omega, by go_num, rfl, U2, HL⟩
            case measure => simp [intOf]; omega
          · have SK : Hid (skipE L (z0 : Int) (j + 1) = skipE L (z0 : Int) j ++ [atV L j]) := Lib.hid (by rw [SS.out, if_neg hji])
            have tj : ((j : Int) != (z0 : Int)) = true := by rw [bne_iff_ne]; exact hji
            have RX := Lib.hid hrow
            have CX := Lib.hid hcp
            have FX : Hid (∀ p, (atV L j).1 = some p → p.block < X.heap.size ∧ u.ownBlock ≠ some p.block) := Lib.hid (fun p hp => by
              have h1 := NL.out _ (atV_mem hlt) p hp
              have h2 := BW.out.size
              rw [HE.out] at h2
              exact ⟨by omega, fun e => by have := (HU.out.own.lt _ e).1; omega⟩)
            clear hji hrow hcp
            generalize atV L j = x at *
            obtain ⟨xa, xz, xc⟩ := x
            simp only at hcell RX CX FX
            generalize skipE L (z0 : Int) j = K0 at *
            go_wp2_with (first | (at_builtin; refine wpList_append_own_at _ rfl _ _ 22 rfl E 40 i0 (.slice none 0 0) 1 24 Try.underlying22 I.out Z0.out Z1.out Z2.out rfl (by decide) _ _ _ rfl (HU.out.own.alloc _) ⟨X.heap.size, 0, none⟩ 1 1 [.slice xa xz.length xc] rfl rfl ?lb1 ?lb2 ?lb3 ?lb4 ?lb5 ?_))
            case lb1 => exact cell_one_new X _ _
            case lb2 => intro u hu; simp at hu; subst hu; rfl
            case lb3 => unfold maxLen; omega
            case lb4 => omega
            case lb5 => simp; omega
            intro v1 w7 hown hgrow _ hat
            have U7 := Lib.hid (HU.out.push (x := (xa, xz, xc)) RX.out CX.out FX.out hown hgrow (by simpa using hat))
            have B7 := Lib.hid (HU.out.belowW HL.out hEX hgrow)
            rw [← SK.out] at U7
            clear hown hgrow hat hcell
            go_wp2_with fail
            go_roundw
            case rel => exact ⟨j + 1, _, by omega, by go_num, rfl, U7, B7⟩
            case measure => simp [intOf]; omega
        · have tl : decide (j < L.length) = false := decide_eq_false hlt
          obtain rfl : j = L.length := by omega
          have HUX : Hid (UL E X u (skipE L (z0 : Int) L.length)) := HU
          have RB : Hid (∀ x ∈ skipE L (z0 : Int) L.length, ∀ p, x.1 = some p → p.block < E) := Lib.hid (fun x hx p hp => by
            obtain ⟨t, ht, rfl⟩ := List.mem_map.1 hx
            have h1 : t < L.length := List.mem_range.1 (List.mem_filter.1 ht).1
            have h2 := NL.out _ (atV_mem h1) p hp
            have h3 := BW.out.size
            rw [HE.out] at h3
            omega)
          have KL : Hid (∀ x ∈ skipE L (z0 : Int) L.length, x ∈ L) := Lib.hid (fun x hx => by
            obtain ⟨t, ht, rfl⟩ := List.mem_map.1 hx
            exact atV_mem (List.mem_range.1 (List.mem_filter.1 ht).1))
          obtain ⟨K, hK⟩ : ∃ K, skipE L (z0 : Int) L.length = K := ⟨_, rfl⟩
          rw [hK] at HUX RB hkl9 KL
          have KC := KCF.out K hK
          have KC := Lib.hid KC
          have hKl : K.length ≤ 1000 := by omega
          have KX := Lib.hid (KX0.out.belowB HE.out HL.out)
          have OE : Hid ((X.alloc (.cells #[] 2)).ownsRow E 2 1 (.slice (some ⟨X.heap.size, 0, none⟩) 0 0) 0 []) := Lib.hid (World.ownsRow_lit (base := E) (e := 2) (size := 1) X #[] 0 hEX (by decide) rfl)
          have LX2 : Hid (Below E X0 (X.alloc (.cells #[] 2))) := Lib.hid (HL.out.alloc hEX _)
          have UX2 := Lib.hid (HUX.out.below ((Below.refl X.heap.size X).alloc (Nat.le_refl _) (.cells #[] 2)))
          have KX2 := Lib.hid (KX.out.alloc (.cells #[] 2))
          have NE0 : Hid (∀ q, u.ownBlock = some q → (Value.slice (some ⟨X.heap.size, 0, none⟩) 0 0).ownBlock ≠ some q) := Lib.hid (fun q hq e => by
            simp only [Value.ownBlock, Option.some.injEq] at e
            have := (HUX.out.own.lt q hq).2; omega)
          clear hK HU HUX KX KCF
          have hEY : E ≤ (X.alloc (.cells #[] 2)).heap.size := by have := LX2.out.size; rw [HE.out] at this; exact this
          go_wp2_with (first | (at_builtin; refine wpList_append_own_none rfl _ _ 40 rfl E 2 i1 1 Try.underlying40 I'.out _ _ _ rfl OE.out ?hxx ?_; case hxx => exact slN HW0.out) | (at_builtin; refine wpList_append_own_at _ rfl _ _ 40 rfl E 2 i1 (.int .i64 0) 1 8 Try.underlying40 I'.out Z0'.out Z1'.out Z2'.out rfl (by decide) _ _ _ rfl (OE.out.alloc _) ⟨X.heap.size + 1, 0, none⟩ 1 1 [.int .i64 cost] rfl rfl ?kb1 ?kb2 ?kb3 ?kb4 ?kb5 ?_))
          case kb1 => (have h77 := cell_one_new (X.alloc (.cells #[] 2)) (.int .i64 cost) 2; rw [show (X.alloc (.cells #[] 2)).heap.size = X.heap.size + 1 by simp] at h77; exact h77)
          case kb2 => intro u hu; simp at hu; subst hu; rfl
          case kb3 => unfold maxLen; omega
          case kb4 => omega
          case kb5 => simp; omega
          intro v1 Y1 hown hgrow _ hat
          have O10 : Hid (Y1.ownsRow E 2 1 v1 (rowE (key, cost)).length ((rowE (key, cost)).map (Value.int .i64))) := Lib.hid (by
            have e9 : (rowE (key, cost)).length = wd + 1 := by simp [rowE, HKL.out]
            rw [e9]
            have := hown
            have hk0 : key = [] := List.eq_nil_of_length_eq_zero (by rw [HKL.out, HW0.out])
            rw [hk0, HW0.out]
            simpa [rowE] using this)
          have hne1 : u.ownBlock ≠ v1.ownBlock ∨ u.ownBlock = none := by
            cases hu : u.ownBlock with
            | none => exact .inr rfl
            | some q =>
              left
              intro e
              have h1 := (UX2.out.own.lt q hu).2
              rcases hat with h2 | h2
              · rw [h2] at e; exact NE0.out q hu e.symm
              · rw [h2] at e; simp at e h1; omega
          have kY : Keeps (fun b => (Value.slice (some ⟨X.heap.size, 0, none⟩) 0 0).ownBlock = some b) (X.alloc (.cells #[] 2)) Y1 := ((Keeps.refl _ (X.alloc (.cells #[] 2))).alloc _).trans (Keeps.of_grown hgrow (fun b hb => hb))
          have UY1 : Hid (UL E Y1 u K) := Lib.hid (UX2.out.keeps kY (fun b hb e => NE0.out b hb e) (fun x hx p hp e => by
            have h1 := (OE.out.lt _ e).1
            have h2 := RB.out x hx p hp
            omega))
          have LY1 : Hid (Below E X0 Y1) := Lib.hid ((LX2.out.alloc hEY _).grown hgrow (by simp; omega) (fun k hk => (OE.out.lt k hk).1))
          obtain ⟨ra, rc, hv1, hrow1, hcp1, hfr1⟩ := fresh_of_owns O10.out
          subst hv1
          have hEY1 : E ≤ Y1.heap.size := Nat.le_trans hEY kY.size
          have F1 : Hid (∀ p, ra = some p → p.block < Y1.heap.size ∧ u.ownBlock ≠ some p.block) := Lib.hid (fun p hp => ⟨(hfr1 p hp).2, fun e => by
            rcases hne1 with h1 | h1
            · exact h1 (by rw [e, hp]; rfl)
            · rw [h1] at e; cases e⟩)
          have R1 := Lib.hid hrow1
          have FB : Hid (∀ p, ra = some p → E ≤ p.block) := Lib.hid (fun p hp => (hfr1 p hp).1)
          have C1 := Lib.hid hcp1
          have e9 : (rowE (key, cost)).length = wd + 1 := by simp [rowE, HKL.out]
          have E9 := Lib.hid e9
          have hlv : (Value.slice ra (rowE (key, cost)).length rc) = .slice ra (wd + 1) rc := by rw [e9]
          rw [e9]
          clear hown hgrow hat kY hrow1 hcp1 hfr1 hne1 UX2 OE LX2 KX2 NE0 e9 hlv
          go_wp2_with (first | (at_builtin; refine wpList_append_own_at _ rfl _ _ 22 rfl E 40 i0 (.slice none 0 0) 1 24 Try.underlying22 I.out Z0.out Z1.out Z2.out rfl (by decide) _ _ _ rfl (UY1.out.own.alloc _) ⟨Y1.heap.size, 0, none⟩ 1 1 [.slice ra (wd + 1) rc] rfl rfl ?jb1 ?jb2 ?jb3 ?jb4 ?jb5 ?_))
          case jb1 => exact cell_one_new Y1 _ _
          case jb2 => first | rfl | (intro u hu; simp at hu; subst hu; rfl)
          case jb3 => unfold maxLen; omega
          case jb4 => omega
          case jb5 => first | omega | (simp; omega)
          intro v2 Y2 hown hgrow _ hat
          have U2 := Lib.hid (UY1.out.push (x := (ra, rowE (key, cost), rc)) R1.out C1.out F1.out (by simp only [encV, E9.out]; exact hown) hgrow (by simpa using hat))
          have B2 := Lib.hid (UY1.out.belowW LY1.out hEY1 hgrow)
          clear hown hgrow hat
          obtain ⟨fa, fc, hv2, hRR⟩ := U2.out.rrow
          subst hv2
          have HRR := Lib.hid hRR
          have LK : Hid ((K ++ [(ra, rowE (key, cost), rc)]).length = K.length + 1) := Lib.hid (by simp)
          clear hRR
          go_wp2_with fail
          go_ret2
          refine ⟨fa, fc, K ++ [(ra, rowE (key, cost), rc)], ret_lput PB.out.symm, ⟨HRR.out, ?_, OK2.out⟩, BW.out.trans (B2.out.mono (by have := BW.out.size; rw [HE.out] at this; exact this)), .inr (fun p hp => ?_), fun x hx => ?_⟩
          · rw [LP.out, List.map_append, List.map_append, KC.out]
            rfl
          · have h1 := (U2.out.own.lt p.block (by rw [hp]; rfl)).1
            have h2 := BW.out.size
            rw [HE.out] at h2
            omega
          · rcases List.mem_append.1 hx with hx | hx
            · exact .inl (KL.out x hx)
            · obtain rfl : x = (ra, rowE (key, cost), rc) := by simpa using hx
              refine .inr (fun p hp => ?_)
              have h1 := FB.out p hp
              have h2 := BW.out.size
              rw [HE.out] at h2
              omega

end Go.Proofs.Ytcecndjkfdaaaaa
namespace Go.Proofs.Ytcecndjkfdaaaaa
open Go.RowKit Go.Maps
set_option linter.unusedVariables false
set_option linter.unusedSimpArgs false

/-- Keys with costs. -/
abbrev PV := RV × Int
def atP (T : List PV) (i : Nat) : PV := T[i]?.getD ((none, [], 0), 0)
theorem atP_mem {T : List PV} {i : Nat} (h : i < T.length) : atP T i ∈ T := by simp only [atP, List.getElem?_eq_getElem h, Option.getD_some]; exact List.getElem_mem h
structure PArgs (w : World) (a : Option Addr) (T : List PV) : Prop where
  cells : T = [] ∨ ∃ b off, a = some ⟨b, off, none⟩ ∧ b < w.heap.size ∧ ∀ i, i < T.length → w.cell? ⟨b, off + i * 2, none⟩ = some (encV (atP T i).1) ∧ w.cell? ⟨b, off + i * 2 + 1, none⟩ = some (.int .i64 (atP T i).2)
  rows : ∀ x ∈ T, Row w x.1.1 x.1.2.1 ∧ InRange x.1.2.1 ∧ (x.1.1 = none → x.1.2.2 = 0) ∧ x.1.2.1.length ≤ maxLen
  len : T.length ≤ maxLen
theorem PArgs.at {w W : World} {B : Nat} {a : Option Addr} {T : List PV} (h : PArgs w a T) (hB : w.heap.size = B) (hb : Below B w W) {i : Nat} (hi : i < T.length) :
    ∃ b off, a = some ⟨b, off, none⟩ ∧ b < B ∧ W.cell? ⟨b, off + i * 2, none⟩ = some (encV (atP T i).1) ∧ W.cell? ⟨b, off + i * 2 + 1, none⟩ = some (.int .i64 (atP T i).2) := by
  rcases h.cells with h0 | ⟨b, off, ha, hlt, hc⟩
  · subst h0; simp at hi
  · exact ⟨b, off, ha, by rw [← hB]; exact hlt, (hb.cell (p := ⟨b, off + i * 2, none⟩) (by rw [← hB]; exact hlt)).trans (hc i hi).1, (hb.cell (p := ⟨b, off + i * 2 + 1, none⟩) (by rw [← hB]; exact hlt)).trans (hc i hi).2⟩
end Go.Proofs.Ytcecndjkfdaaaaa
namespace Go.Proofs.Ytcecndjkfdaaaaa
open Go.ChangeShapes Go.WideShapes Go.ChangeAt Go.RowKit Go.Deep
set_option linter.unusedVariables false
set_option linter.unusedSimpArgs false

section
variable {H : Type} {enc : TypeId × Value → H} {W : World} {base : Nat} {spare : Nat → Bool} {held : Bool}
theorem list_ofP {P : Nat → PV → Prop} (n : Nat) (h : ∀ i, i < n → ∃ x, P i x) : ∃ T : List PV, T.length = n ∧ ∀ i, i < n → P i (atP T i) := by
  induction n with
  | zero => exact ⟨[], rfl, fun i hi => by omega⟩
  | succ n ih =>
    obtain ⟨T, hT, hP⟩ := ih (fun i hi => h i (by omega))
    obtain ⟨x, hx⟩ := h n (by omega)
    refine ⟨T ++ [x], by simp [hT], fun i hi => ?_⟩
    rcases Nat.lt_succ_iff_lt_or_eq.1 hi with h1 | h1
    · have : atP (T ++ [x]) i = atP T i := by simp only [atP]; rw [List.getElem?_append_left (by omega)]
      rw [this]; exact hP i h1
    · subst h1
      have : atP (T ++ [x]) i = x := by simp only [atP]; rw [List.getElem?_append_right (by omega), hT]; simp
      rw [this]; exact hx
theorem puts_of {fuel : Nat} {a : Option Addr} {len cap : Nat} {x : DataW H × List MemPlace} (hsp : ∀ b, spare b = true) (hbd : ∀ n, (Lit.int .i64 n).wf = true → -9223372036854775808 ≤ n ∧ n ≤ 9223372036854775807)
    (h : DataW.trod enc Try.prog W base spare held fuel 44 [.slice a len cap] = some x) : ∃ T : List PV, len = T.length ∧ PArgs W a T := by
  rcases open_slice_pairs Try.underlying44 Try.underlying49 (by kernel_rfl) rfl rfl (by kernel_rfl) (by kernel_rfl) h with ⟨hcs, _⟩ | ⟨y, l, c, m, n, V0, V1, D0, D1, P0, P1, hcs, _, hl, hm, hmm, _, hall⟩
  · simp at hcs
    obtain ⟨rfl, rfl, rfl⟩ := hcs
    exact ⟨[], rfl, ⟨.inl rfl, fun x hx => (by cases hx), Nat.zero_le _⟩⟩
  · simp at hcs
    obtain ⟨rfl, rfl, rfl⟩ := hcs
    have hml : len ≤ m := by rw [hmm]; split <;> omega
    obtain ⟨T, hT, hP⟩ := list_ofP (P := fun i z => (W.cell? (y.add (i * 2)) = some (encV z.1) ∧ W.cell? (y.add (i * 2 + 1)) = some (.int .i64 z.2)) ∧ Row W z.1.1 z.1.2.1 ∧ InRange z.1.2.1 ∧ (z.1.1 = none → z.1.2.2 = 0) ∧ z.1.2.1.length ≤ maxLen) len (fun i hil => by
      obtain ⟨h1, h2, h3, h4⟩ := hall i (by omega)
      obtain ⟨k, e1, _⟩ := DataW.trod_int Try.underlying2 h4
      simp only [List.cons.injEq, and_true] at e1
      have hV : ∃ a' l' c', V0 i = .slice a' l' c' := by
        rcases open_ints Try.underlying40 Try.underlying2 (by kernel_rfl) h3 with ⟨hcs, _⟩ | ⟨y', l', c', zs', hcs, _⟩
        · simp at hcs; exact ⟨_, _, _, hcs⟩
        · simp at hcs; exact ⟨_, _, _, hcs⟩
      obtain ⟨a', l', c', e⟩ := hV
      rw [e] at h1 h3
      obtain ⟨zs, hz⟩ := isRow_of Try.underlying40 Try.underlying2 (by kernel_rfl) hsp h3
      have hnc : a' = none → c' = 0 := fun h0 => by
        rcases hz with ⟨_, _, h9, _⟩ | ⟨x9, h9, _⟩
        · exact h9
        · rw [h0] at h9; cases h9
      obtain ⟨ys, e2, hR, hbn, hml'⟩ := isRow_row hz hbd
      subst e2
      exact ⟨((a', ys, c'), k), ⟨h1, by rw [h2, e1]⟩, hR, hbn, hnc, hml'⟩)
    refine ⟨T, hT.symm, ⟨?_, fun z hz => ?_, by rw [hT]; omega⟩⟩
    · by_cases h0 : T = []
      · exact .inl h0
      · have hpos : 0 < len := by rw [← hT]; exact List.length_pos_iff.2 h0
        obtain ⟨b, off, spot⟩ := y
        have hc0 := (hP 0 hpos).1.1
        obtain rfl : spot = none := by simpa [Addr.add] using World.cell?_spot hc0
        have hb : b < W.heap.size := by
          rcases Nat.lt_or_ge b W.heap.size with h | h
          · exact h
          · simp [World.cell?, Addr.add, h] at hc0
        have ad : ∀ j, (⟨b, off, none⟩ : Addr).add j = ⟨b, off + j, none⟩ := fun j => by simp only [Addr.add]; split <;> simp_all
        refine .inr ⟨b, off, rfl, hb, fun i hi => ?_⟩
        have := (hP i (by omega)).1
        rw [ad, ad] at this
        exact this
    · obtain ⟨i, hi, e⟩ := List.getElem_of_mem hz
      have := (hP i (by omega)).2
      rw [show atP T i = z by simp [atP, hi, e]] at this
      exact this
end
end Go.Proofs.Ytcecndjkfdaaaaa
namespace Go.Proofs.Ytcecndjkfdaaaaa
open Go.RowKit Go.Maps
set_option linter.unusedVariables false
set_option linter.unusedSimpArgs false

/-- The law's put at any key. -/
theorem lput3_calls {w : World} {a : Option Addr} {wd : Nat} {es : List Ent} {L : List RV} (cap : Nat) (great : Bool) (h : RE w a wd es L) (ka : Option Addr) (kc : Nat) (key : List Int) (cost : Int) (hk : Row w ka key) (hkc : ka = none → kc = 0) (hkl : key.length = wd) (hkr : InRange key) (hwd : wd ≤ 100) (hL : L.length ≤ 900) :
    Calls Try.prog 27 #[.slice a L.length cap, .bool great, .slice ka key.length kc, .int .i64 cost] w (LPutRet a L wd great es key cost w) := by
  cases ka with
  | some ad => exact lput_calls cap great h ad kc key cost hk hkl hkr hwd hL
  | none =>
    rw [hkc rfl]
    have h0 : key = [] := by
      rcases hk with h1 | ⟨b, off, h1, _⟩
      · exact h1
      · cases h1
    exact lputN_calls cap great h (by rw [← hkl, h0]; rfl) key cost hk hkl hkr hwd hL
set_option maxRecDepth 100000 in
set_option maxHeartbeats 8000000 in
theorem bestPuts_walk {w : World} {a oa : Option Addr} {T : List PV} {os : List Int} (width : Int) (great : Bool) (cap oc : Nat) (hargs : PArgs w a T) (hor : Row w oa os) (hoi : InRange os) (hol : os.length ≤ maxLen) :
    Calls Try.prog 8 #[.int .i64 width, .bool great, .slice a T.length cap, .slice oa os.length oc] w (TrueRet5 w) := by
  obtain ⟨B, hB⟩ : ∃ B, w.heap.size = B := ⟨_, rfl⟩
  have HB := Lib.hid hB
  have HT := Lib.hid hargs
  have HO := Lib.hid hor
  have HOI := Lib.hid hoi
  have hTl := hargs.len
  obtain ⟨wd, hwd3, hwd⟩ := width4 width
  clear hB hargs hor hoi
  go_enter Try.func8, Try.ntmps8
  go_wp2_with fail
  refine (head10_calls w).mono ?_
  rintro e W1 ⟨rfl, hb1⟩
  have B1 : Hid (Below B w W1) := Lib.hid (by rw [HB.out] at hb1; exact hb1)
  clear hb1
  by_cases h60 : 60 < T.length
  · go_wp2_with fail
    go_ret
    exact ⟨rfl, by rw [HB.out]; exact B1.out⟩
  · by_cases h8 : 8 < os.length
    · go_wp2_with fail
      go_ret
      exact ⟨rfl, by rw [HB.out]; exact B1.out⟩
    · have hBW1 : B ≤ W1.heap.size := by have := B1.out.size; rw [HB.out] at this; exact this
      have cn : Calls Try.prog 26 #[.int .i64 wd, .bool great] W1 _ := new_calls (wd : Int) great W1
      have H2 := Lib.hid (BB.new B1.out hBW1 wd great)
      go_wp2_with fail
      rw [hwd]
      clear hwd
      refine cn.mono ?_
      rintro e w' ⟨rfl, rfl⟩
      clear cn
      obtain ⟨g, hg⟩ : ∃ g, W1.heap.size = g := ⟨_, rfl⟩
      rw [hg] at H2 ⊢
      clear hg hBW1
      generalize World.alloc W1 _ = W2 at *
      generalize (fun k => k = g) = N2 at *
      go_wp2_with fail
      have X0 : Hid (AX B w (W2.alloc (.cells #[] 40)) N2 g wd great [] [] (some ⟨W2.heap.size, 0, none⟩) []) := Lib.hid ⟨H2.out.next ((Below.refl W2.heap.size W2).alloc (Nat.le_refl _) _), ⟨⟨.inl rfl, fun x hx => by cases hx⟩, rfl, ⟨List.Pairwise.nil, fun e he => (by cases he), fun e he => (by cases he)⟩⟩, ⟨fun p hp => by cases hp; exact ⟨fun hn => by have := H2.out.b.lt _ hn; simp at this, by simp⟩, fun x hx => by cases hx⟩, fun k => rfl⟩
      generalize (some ({ block := W2.heap.size, off := 0 } : Addr)) = ra0 at *
      generalize World.alloc W2 _ = W3 at *
      clear H2 B1
      go_loopw [41, 10] (fun s v wr => ∃ (t : Nat) (N : Nat → Prop) (eb el : List Ent) (ra : Option Addr) (rc : Nat) (L : List RV), t ≤ T.length ∧ s = .int .i64 t ∧ v = .slice ra L.length rc ∧ Hid (el.length ≤ t) ∧ Hid (eb.length = el.length) ∧ Hid (AX B w wr N g wd great eb el ra L)) (fun s _ _ => T.length - (intOf s).toNat)
      case atStart => exact ⟨0, N2, [], [], ra0, 0, [], Nat.zero_le _, rfl, rfl, Lib.hid (Nat.le_refl _), Lib.hid rfl, X0⟩
      case round =>
        obtain ⟨t, N, eb, el, ra, rc, L, ht, rfl, rfl, LEL, LEB, HX⟩ := hrel
        obtain ⟨X, rfl⟩ : ∃ x, x = wr := ⟨wr, rfl⟩
        have HLL : Hid (L.length = el.length) := Lib.hid HX.out.re.len
        clear X0
        by_cases hlt : t < T.length
        · obtain ⟨tb, tof, hta, htB, htc, htd⟩ := HT.out.at HB.out HX.out.bb.bel hlt
          cases hta
          have NA := HT.out.rows _ (atP_mem hlt)
          generalize atP T t = x at *
          obtain ⟨⟨ka, key, kc⟩, cost⟩ := x
          simp only [encV] at htc htd NA
          have KR : Hid (∀ W, Below B w W → Row W ka key) := Lib.hid (fun W hb => NA.1.belowB HB.out hb)
          have KI := Lib.hid NA.2.1
          have KC := Lib.hid NA.2.2.1
          have hkm := NA.2.2.2
          have hne : ¬ tb = X.heap.size := by have := HX.out.bb.sz; omega
          clear NA
          obtain ⟨S, hS⟩ : ∃ S, X.heap.size = S := ⟨_, rfl⟩
          have H1 := Lib.hid (HX.out.next ((Below.refl X.heap.size X).alloc (Nat.le_refl _) (.cells #[.slice ka key.length kc, .int .i64 cost] 49)))
          have ca0 : (X.alloc (.cells #[.slice ka key.length kc, .int .i64 cost] 49)).cell? ⟨S, 0, none⟩ = some (.slice ka key.length kc) := by subst hS; go_simp
          have ca1 : (X.alloc (.cells #[.slice ka key.length kc, .int .i64 cost] 49)).cell? ⟨S, 1, none⟩ = some (.int .i64 cost) := by subst hS; go_simp
          have hS1 : S < (X.alloc (.cells #[.slice ka key.length kc, .int .i64 cost] 49)).heap.size := by simp; omega
          by_cases hk8 : 8 < key.length
          · go_wp2_with fail
            go_ret
            exact ⟨rfl, by rw [HB.out]; exact H1.out.bb.bel⟩
          · by_cases hkw : key.length = wd
            · have HKW := Lib.hid hkw
              rw [hkw] at htc H1 ca0 ca1 hS1 hk8 hkm
              clear hkw
              have cp := lput3_calls rc great H1.out.re ka kc key cost (KR.out _ H1.out.bb.bel) KC.out HKW.out KI.out (by omega) (by have h1 := HLL.out; have h2 := LEL.out; omega)
              have NZ := Lib.hid H1.out.bb.b.lt
              have LK2 : Hid (∀ k, lookE (putE great eb key cost) k = lookE (lputE great el key cost) k) := Lib.hid (fun k => by
                rw [look_put, look_lput H1.out.re.ok.dist, putB_same H1.out.same, H1.out.same k, H1.out.same key])
              have LN2 : Hid ((putE great eb key cost).length = (lputE great el key cost).length) := Lib.hid (by rw [put_len, lput_len, LEB.out, H1.out.same key])
              have LL2 : Hid ((lputE great el key cost).length ≤ t + 1) := Lib.hid (by
                have h1 := lput_len great el key cost
                have h2 := LEL.out
                split at h1 <;> omega)
              unfold LPutRet at cp
              rw [← putB_same H1.out.same, HKW.out] at cp
              go_wp2_with fail
              generalize World.alloc X _ = Xa at *
              refine cp.mono ?_
              rintro e V ⟨a4, c4, L4, rfl, hr4, hb4, ha4, hx4⟩
              have F4 := Lib.hid (H1.out.fq.lput NZ.out hb4.size hr4 ha4 hx4)
              have BB4 := Lib.hid (H1.out.bb.next hb4)
              have R4 := Lib.hid hr4
              have cb0 : V.cell? ⟨S, 0, none⟩ = some (.slice ka wd kc) := (hb4.cell (p := ⟨S, 0, none⟩) hS1).trans ca0
              have cb1 : V.cell? ⟨S, 1, none⟩ = some (.int .i64 cost) := (hb4.cell (p := ⟨S, 1, none⟩) hS1).trans ca1
              have cu := bput2_calls BB4.out.b ka kc key cost (KR.out _ BB4.out.bel) HKW.out KI.out (by omega) (by have h1 := LEB.out; have h2 := LEL.out; omega)
              rw [HKW.out] at cu
              clear cp hr4 hb4 ha4 hx4 ca0 ca1 hS1 htc htd
              go_wp2_with fail
              refine cu.mono ?_
              rintro e V2 ⟨rfl, hbz, hkz⟩
              have A5 : Hid (AX B w V2 (NN N V.heap.size V2.heap.size) g wd great (putE great eb key cost) (lputE great el key cost) a4 L4) := Lib.hid ⟨BB4.out.put hbz hkz, R4.out.keeps hkz F4.out.fp, F4.out.more hkz.size nn_more, LK2.out⟩
              generalize putB great eb key cost = pb at *
              clear cu hbz hkz cb0 cb1
              cases pb
              · go_wp2_with fail
                go_roundw
                case rel => exact ⟨t + 1, _, _, _, a4, c4, L4, by omega, by go_num, rfl, LL2, LN2, A5⟩
                case measure => simp [intOf]; omega
              · go_wp2_with fail
                go_roundw
                case rel => exact ⟨t + 1, _, _, _, a4, c4, L4, by omega, by go_num, rfl, LL2, LN2, A5⟩
                case measure => simp [intOf]; omega
            · have cu := bput_wide H1.out.bb.b ka kc key cost hkw (by omega) (by omega)
              have tkw : ((key.length : Int) == (wd : Int)) = false := by rw [beq_eq_false_iff_ne]; omega
              go_wp2_with fail
              generalize World.alloc X _ = Xa at *
              refine cu.mono ?_
              rintro e w' ⟨rfl, rfl⟩
              clear cu ca0 ca1 hS1 htc htd
              go_wp2_with fail
              go_roundw
              case rel => exact ⟨t + 1, N, eb, el, ra, rc, L, by omega, by go_num, rfl, Lib.hid (by have := LEL.out; omega), LEB, H1⟩
              case measure => simp [intOf]; omega
        · have tl : decide (t < T.length) = false := decide_eq_false hlt
          have hl60 : L.length ≤ 60 := by have h1 := HLL.out; have h2 := LEL.out; omega
          have RM : Hid (∀ j, j < L.length → ∃ k c, el[j]? = some (k, c) ∧ k.length = wd ∧ InRange k ∧ (atV L j).2.1 = k ++ [c] ∧ lookE eb k = some c) := Lib.hid (fun j hj => by
            obtain ⟨⟨k, c⟩, h1, h2, h3, h4⟩ := HX.out.re.at hj
            refine ⟨k, c, h1, h3, h4, h2, ?_⟩
            rw [HX.out.same k]
            exact (mem_look HX.out.re.ok.dist k c).1 (List.mem_of_getElem? h1))
          have hb60 : eb.length ≤ 60 := by have h1 := HLL.out; have h2 := LEB.out; omega
          go_wp2_with fail
          go_loopw [75] (fun s wr => ∃ (j : Nat), j ≤ L.length ∧ s = .int .i64 j ∧ Hid (AX B w wr N g wd great eb el ra L)) (fun s _ => L.length - (intOf s).toNat)
          case atStart => exact ⟨0, Nat.zero_le _, rfl, HX⟩
          case round =>
            obtain ⟨j, hj, rfl, HY⟩ := hrel
            obtain ⟨Y, rfl⟩ : ∃ x, x = wr := ⟨wr, rfl⟩
            by_cases hlt2 : j < L.length
            · obtain ⟨b, off, hla, _, hcell, hrow, hcp⟩ := HY.out.re.rr.at hlt2
              cases hla
              obtain ⟨k, c, _, hkl, hki, hre, hlk⟩ := RM.out j hlt2
              rw [hre] at hcell hrow hcp
              obtain ⟨rb, ro, hra, hrlt, hrc, hrk⟩ := row_last hrow
              have hrl : (k ++ [c]).length = wd + 1 := by simp; exact hkl
              rw [hrl] at hcell hcp
              rw [hkl] at hrc
              rw [hra] at hcell
              have cg := get_calls HY.out.bb.b (some ⟨rb, ro, none⟩) (atV L j).2.2 k (by rw [← hra]; exact hrk) hki (by omega) (by omega) (by omega)
              unfold GetRet at cg
              rw [hlk, hkl] at cg
              have qc1 : (wd : Int) ≤ ((atV L j).2.2 : Int) := by omega
              have qc2 : ¬ (atV L j).2.2 = 0 := by omega
              have qc3 : (wd : Int) < (wd : Int) + 1 := by omega
              generalize (atV L j).2.2 = xc at *
              clear hre hlk hrow hrl hkl hki hrk hra hcp
              go_wp2_with fail
              refine cg.mono ?_
              rintro e Z ⟨rfl, hb⟩
              have HZ := Lib.hid (HY.out.next hb)
              have hrc2 : Z.cell? ⟨rb, ro + wd, none⟩ = some (.int .i64 c) := (hb.cell (p := ⟨rb, ro + wd, none⟩) hrlt).trans hrc
              clear cg hb hcell hrc
              simp only [costOr, Option.getD_some, Option.isSome_some]
              go_wp2_with fail
              go_roundw
              case rel => exact ⟨j + 1, by omega, by go_num, HZ⟩
              case measure => simp [intOf]; omega
            · have tl2 : decide (j < L.length) = false := decide_eq_false hlt2
              have cg := get_calls HY.out.bb.b oa oc os (HO.out.belowB HB.out HY.out.bb.bel) HOI.out (by omega) (by omega) (by omega)
              have WIDE : Hid (∀ x ∈ L, x.2.1.length ≤ 1000000) := Lib.hid (fun x hx => by
                have h1 : x.2.1 ∈ L.map (·.2.1) := List.mem_map_of_mem hx
                rw [HY.out.re.cont] at h1
                obtain ⟨e9, he9, h2⟩ := List.mem_map.1 h1
                rw [← h2]
                have h3 := HY.out.re.ok.len e9 he9
                simp [rowE, h3]; omega)
              have TL : Hid (eb.length = L.length) := Lib.hid (by have h1 := HLL.out; have h2 := LEB.out; omega)
              unfold GetRet at cg
              by_cases how : os.length = wd
              · have tkw : ((os.length : Int) == (wd : Int)) = true := by rw [how]; simp
                have HOW := Lib.hid how
                clear how
                cases hlk : lookE el os with
                | none =>
                  rw [HY.out.same os, hlk] at cg
                  go_wp2_with fail
                  refine cg.mono ?_
                  rintro e Z ⟨rfl, hb⟩
                  have HZ := Lib.hid (HY.out.next hb)
                  have e1 : placeE el os = -1 := by unfold placeE; rw [hlk]; rfl
                  have cp := place_calls rc HZ.out.re oa oc os (HO.out.belowB HB.out HZ.out.bb.bel) HOW.out (by omega) (by omega)
                  rw [e1] at cp
                  clear cg hb e1 hlk
                  simp only [costOr, Option.getD_none, Option.isSome_none]
                  go_wp2_with fail
                  refine cp.mono ?_
                  rintro e V ⟨rfl, q0, hq0⟩
                  have A4 : Hid (AX B w V N g wd great eb el ra L) := Lib.hid (HZ.out.next (by rw [hq0]; exact below_drewN (Below.refl _ _) q0))
                  clear cp hq0
                  have cl := A4.out.bb.len
                  rw [TL.out] at cl
                  go_wp2_with fail
                  refine cl.mono ?_
                  rintro e w' ⟨rfl, rfl⟩
                  have cs := bseg_calls A4.out.bb.b (by omega) (by omega)
                  rw [rel_look A4.out.bb.b.ok.dist A4.out.re.ok.dist A4.out.same, ← A4.out.re.cont] at cs
                  have hrl9 : (relOf ((wd + 1 : Nat) : Int) (L.map (·.2.1))).length ≤ 1000 := by have h9 := rel_len ((wd + 1 : Nat) : Int) (L.map (·.2.1)); rw [List.length_map] at h9; omega
                  obtain ⟨R9, hR9⟩ : ∃ R, relOf ((wd + 1 : Nat) : Int) (L.map (·.2.1)) = R := ⟨_, rfl⟩
                  have HR9 := Lib.hid hR9
                  rw [hR9] at cs hrl9
                  clear hR9 cl
                  go_wp2_with fail
                  refine cs.mono ?_
                  rintro e V3 ⟨p3, rfl, hl3, hb3⟩
                  have A5 := Lib.hid (A4.out.next hb3)
                  have ct := sorted_calls2 (wd + 1) ra rc L V3 A5.out.re.rr (by omega) (by omega) WIDE.out
                  unfold SortRet2 at ct
                  rw [HR9.out] at ct
                  have ec : ((wd + 1 : Nat) : Int) = (wd : Int) + 1 := by omega
                  rw [ec] at ct
                  have G3 := Lib.hid hl3
                  clear ec cs hl3 hb3
                  go_wp2_with fail
                  refine ct.mono ?_
                  rintro e V4 ⟨g2, c2, L9, rfl, hc9, hr9, _, hb9⟩
                  have ci := is_calls (G3.out V4 ((Later.refl _ _).below hb9)) (some ⟨g2, 0, none⟩) c2 L9 hr9 (by omega) hrl9 hc9.symm
                  have A6 := Lib.hid (A5.out.next hb9)
                  clear ct hc9 hr9 hb9 hrl9
                  go_wp2_with fail
                  refine ci.mono ?_
                  rintro e V5 ⟨rfl, hb9⟩
                  have A7 := Lib.hid (A6.out.next hb9)
                  clear ci hb9
                  go_wp2_with fail
                  go_ret
                  exact ⟨rfl, by rw [HB.out]; exact A7.out.bb.bel⟩
                | some d =>
                  rw [HY.out.same os, hlk] at cg
                  go_wp2_with fail
                  refine cg.mono ?_
                  rintro e Z ⟨rfl, hb⟩
                  have HZ := Lib.hid (HY.out.next hb)
                  have e1 : placeE el os = (spotE el os : Int) := by unfold placeE; rw [hlk]; rfl
                  have hsl := spot_lt hlk
                  have hsa := spot_at hlk
                  have cp := place_calls rc HZ.out.re oa oc os (HO.out.belowB HB.out HZ.out.bb.bel) HOW.out (by omega) (by omega)
                  rw [e1] at cp
                  obtain ⟨i9, hi0⟩ : ∃ i, spotE el os = i := ⟨_, rfl⟩
                  rw [hi0] at hsl hsa cp
                  clear cg hb e1 hlk hi0
                  simp only [costOr, Option.getD_some, Option.isSome_some]
                  go_wp2_with fail
                  refine cp.mono ?_
                  rintro e V ⟨rfl, q0, hq0⟩
                  have A4 : Hid (AX B w V N g wd great eb el ra L) := Lib.hid (HZ.out.next (by rw [hq0]; exact below_drewN (Below.refl _ _) q0))
                  have hsL : i9 < L.length := by rw [HLL.out]; exact hsl
                  obtain ⟨wb, wo, hwa, _, wcell, wrow, _⟩ := A4.out.re.rr.at hsL
                  obtain ⟨e9, he9, hre9, hkl9, _⟩ := A4.out.re.at hsL
                  rw [hsa] at he9
                  cases he9
                  subst hwa
                  simp only at hkl9
                  rw [hre9] at wcell wrow
                  rw [show (rowE (os, d)).length = wd + 1 by simp [rowE]; exact hkl9] at wcell
                  obtain ⟨vb, vo, hva, _, vcell, _⟩ := row_last wrow
                  rw [hva] at wcell
                  rw [hkl9] at vcell
                  generalize (atV L i9).2.2 = vc at *
                  have qm : max (i9 : Int) 0 = (i9 : Int) := by omega
                  have qc3 : (wd : Int) < (wd : Int) + 1 := by omega
                  have qi : (0 : Int) ≤ (i9 : Int) := by omega
                  clear cp hq0 hsa hre9 hkl9 wrow hva
                  have cl := A4.out.bb.len
                  rw [TL.out] at cl
                  go_wp2_with fail
                  clear qm qi qc3 wcell vcell hsl hsL
                  refine cl.mono ?_
                  rintro e w' ⟨rfl, rfl⟩
                  have cs := bseg_calls A4.out.bb.b (by omega) (by omega)
                  rw [rel_look A4.out.bb.b.ok.dist A4.out.re.ok.dist A4.out.same, ← A4.out.re.cont] at cs
                  have hrl9 : (relOf ((wd + 1 : Nat) : Int) (L.map (·.2.1))).length ≤ 1000 := by have h9 := rel_len ((wd + 1 : Nat) : Int) (L.map (·.2.1)); rw [List.length_map] at h9; omega
                  obtain ⟨R9, hR9⟩ : ∃ R, relOf ((wd + 1 : Nat) : Int) (L.map (·.2.1)) = R := ⟨_, rfl⟩
                  have HR9 := Lib.hid hR9
                  rw [hR9] at cs hrl9
                  clear hR9 cl
                  go_wp2_with fail
                  refine cs.mono ?_
                  rintro e V3 ⟨p3, rfl, hl3, hb3⟩
                  have A5 := Lib.hid (A4.out.next hb3)
                  have ct := sorted_calls2 (wd + 1) (some ⟨wb, wo, none⟩) rc L V3 A5.out.re.rr (by omega) (by omega) WIDE.out
                  unfold SortRet2 at ct
                  rw [HR9.out] at ct
                  have ec : ((wd + 1 : Nat) : Int) = (wd : Int) + 1 := by omega
                  rw [ec] at ct
                  have G3 := Lib.hid hl3
                  clear ec cs hl3 hb3
                  go_wp2_with fail
                  refine ct.mono ?_
                  rintro e V4 ⟨g2, c2, L9, rfl, hc9, hr9, _, hb9⟩
                  have ci := is_calls (G3.out V4 ((Later.refl _ _).below hb9)) (some ⟨g2, 0, none⟩) c2 L9 hr9 (by omega) hrl9 hc9.symm
                  have A6 := Lib.hid (A5.out.next hb9)
                  clear ct hc9 hr9 hb9 hrl9
                  go_wp2_with fail
                  refine ci.mono ?_
                  rintro e V5 ⟨rfl, hb9⟩
                  have A7 := Lib.hid (A6.out.next hb9)
                  clear ci hb9
                  go_wp2_with fail
                  go_ret
                  exact ⟨rfl, by rw [HB.out]; exact A7.out.bb.bel⟩
              · have tkw : ((os.length : Int) == (wd : Int)) = false := by rw [beq_eq_false_iff_ne]; omega
                have hlk : lookE el os = none := look_none.2 (fun e he h => how (by rw [← h]; exact HY.out.re.ok.len e he))
                rw [HY.out.same os, hlk] at cg
                clear hlk
                go_wp2_with fail
                refine cg.mono ?_
                rintro e V ⟨rfl, hb⟩
                have A4 := Lib.hid (HY.out.next hb)
                clear cg hb
                simp only [costOr, Option.getD_none, Option.isSome_none]
                have cl := A4.out.bb.len
                rw [TL.out] at cl
                go_wp2_with fail
                refine cl.mono ?_
                rintro e w' ⟨rfl, rfl⟩
                have cs := bseg_calls A4.out.bb.b (by omega) (by omega)
                rw [rel_look A4.out.bb.b.ok.dist A4.out.re.ok.dist A4.out.same, ← A4.out.re.cont] at cs
                have hrl9 : (relOf ((wd + 1 : Nat) : Int) (L.map (·.2.1))).length ≤ 1000 := by have h9 := rel_len ((wd + 1 : Nat) : Int) (L.map (·.2.1)); rw [List.length_map] at h9; omega
                obtain ⟨R9, hR9⟩ : ∃ R, relOf ((wd + 1 : Nat) : Int) (L.map (·.2.1)) = R := ⟨_, rfl⟩
                have HR9 := Lib.hid hR9
                rw [hR9] at cs hrl9
                clear hR9 cl
                go_wp2_with fail
                refine cs.mono ?_
                rintro e V3 ⟨p3, rfl, hl3, hb3⟩
                have A5 := Lib.hid (A4.out.next hb3)
                have ct := sorted_calls2 (wd + 1) ra rc L V3 A5.out.re.rr (by omega) (by omega) WIDE.out
                unfold SortRet2 at ct
                rw [HR9.out] at ct
                have ec : ((wd + 1 : Nat) : Int) = (wd : Int) + 1 := by omega
                rw [ec] at ct
                have G3 := Lib.hid hl3
                clear ec cs hl3 hb3
                go_wp2_with fail
                refine ct.mono ?_
                rintro e V4 ⟨g2, c2, L9, rfl, hc9, hr9, _, hb9⟩
                have ci := is_calls (G3.out V4 ((Later.refl _ _).below hb9)) (some ⟨g2, 0, none⟩) c2 L9 hr9 (by omega) hrl9 hc9.symm
                have A6 := Lib.hid (A5.out.next hb9)
                clear ct hc9 hr9 hb9 hrl9
                go_wp2_with fail
                refine ci.mono ?_
                rintro e V5 ⟨rfl, hb9⟩
                have A7 := Lib.hid (A6.out.next hb9)
                clear ci hb9
                go_wp2_with fail
                go_ret
                exact ⟨rfl, by rw [HB.out]; exact A7.out.bb.bel⟩
end Go.Proofs.Ytcecndjkfdaaaaa
