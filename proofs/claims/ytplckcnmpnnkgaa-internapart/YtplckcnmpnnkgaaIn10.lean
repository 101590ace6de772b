/- The statement InternApart, walked. -/
import Derived.Test.YtplckcnmpnnkgaaIn9
namespace Go.Proofs.Ytplckcnmpnnkgaa
open Go.RowKit Go.Maps
set_option linter.unusedVariables false
set_option linter.unusedSimpArgs false

set_option maxRecDepth 100000 in
set_option maxHeartbeats 1000000 in
theorem apart_skip (a c : Option Addr) (cap cap' : Nat) (ss ms : List ByteArray) (o : ByteArray) (w : World) (hR : SRow w a ss) (hM : SRow w c ms) (hl : ss.length ≤ maxLen) (hl' : ms.length ≤ maxLen) (hsz : ∀ s ∈ ss, s.size ≤ maxLen) (hsz' : ∀ s ∈ ms, s.size ≤ maxLen) (ho : o.size ≤ maxLen)
    (h : fewB ss = false ∨ (fewB ss = true ∧ fewB ms = false) ∨ (fewB ss = true ∧ fewB ms = true ∧ 60 < o.size)) :
    Calls Try.prog 5 #[.slice a ss.length cap, .slice c ms.length cap', .string o] w (TrueRet w) := by
  have HS := Lib.hid hsz
  have HS' := Lib.hid hsz'
  clear hsz hsz'
  unfold maxLen at ho
  rcases h with h | ⟨h, h2⟩ | ⟨h, h2, h3⟩
  · have H := Lib.hid h
    clear h
    go_enter Try.func5, Try.ntmps5
    go_wp2_with fail
    refine (head_calls _).mono ?_
    rintro e w1 ⟨rfl, hb1⟩
    go_wp2_with (first | (go_at_call 8; refine (few_is _ (hR.below hb1) hl HS.out H.out).mono ?_; rintro e w' ⟨rfl, rfl⟩))
    go_ret
    exact ⟨rfl, hb1⟩
  · have H := Lib.hid h
    have H2 := Lib.hid h2
    clear h h2
    go_enter Try.func5, Try.ntmps5
    go_wp2_with fail
    refine (head_calls _).mono ?_
    rintro e w1 ⟨rfl, hb1⟩
    go_wp2_with fail
    refine (few_is _ (hR.below hb1) hl HS.out H.out).mono ?_
    rintro e w' ⟨rfl, rfl⟩
    go_wp2_with fail
    refine (few_is _ (hM.below hb1) hl' HS'.out H2.out).mono ?_
    rintro e w' ⟨rfl, rfl⟩
    go_wp2_with fail
    go_ret
    exact ⟨rfl, hb1⟩
  · have H := Lib.hid h
    have H2 := Lib.hid h2
    have t1 : decide (60 < o.size) = true := by simpa using h3
    clear h h2
    go_enter Try.func5, Try.ntmps5
    go_wp2_with fail
    refine (head_calls _).mono ?_
    rintro e w1 ⟨rfl, hb1⟩
    go_wp2_with fail
    refine (few_is _ (hR.below hb1) hl HS.out H.out).mono ?_
    rintro e w' ⟨rfl, rfl⟩
    go_wp2_with fail
    refine (few_is _ (hM.below hb1) hl' HS'.out H2.out).mono ?_
    rintro e w' ⟨rfl, rfl⟩
    go_wp2_with fail
    go_ret
    exact ⟨rfl, hb1⟩

theorem app_bel {B : Nat} {w wa w1 : World} {row : Option Nat} (hb : Below B w wa) (hB : B ≤ w.heap.size) (hgrow : wa.grownBy w1 row) (hr : ∀ k, row = some k → B ≤ k) : Below B w w1 :=
  hb.grown hgrow (Nat.le_trans hB hb.size) hr
theorem app_bel2 {B : Nat} {w wa w1 : World} {row : Option Nat} (hb : Below B w wa) (hB : B ≤ w.heap.size) (hgrow : wa.grownBy w1 row) (hr : ∀ k, row = some k → B ≤ k) : Below B w w1 :=
  app_bel hb hB hgrow hr
theorem few_max {ss : List ByteArray} (h : Hid (∀ k, k < ss.length → (ss.getD k ByteArray.empty).size ≤ 60)) : ∀ s ∈ ss, s.size ≤ maxLen := by
  intro s hs
  obtain ⟨i, hi, rfl⟩ := List.getElem_of_mem hs
  have := h.out i hi
  rw [getD_at hi] at this
  unfold maxLen; omega

set_option maxRecDepth 100000 in
set_option maxHeartbeats 4000000 in
theorem apart_some (a c : Option Addr) (cap cap' : Nat) (ss ms : List ByteArray) (o : ByteArray) (w : World) (hR : SRow w a ss) (hM : SRow w c ms) (hca : a = none → cap = 0) (hcc : c = none → cap' = 0) (hf : fewB ss = true) (hf' : fewB ms = true) (ho : o.size ≤ 60) :
    Calls Try.prog 5 #[.slice a ss.length cap, .slice c ms.length cap', .string o] w (TrueRet w) := by
  obtain ⟨hl, hk60⟩ := few_sz hf
  obtain ⟨hl', hk60'⟩ := few_sz hf'
  have HK60 := Lib.hid hk60
  have HK60' := Lib.hid hk60'
  have HF := Lib.hid hf
  have HF' := Lib.hid hf'
  have HCA := Lib.hid hca
  have HCC := Lib.hid hcc
  clear hk60 hk60' hf hf' hca hcc
  have t1 : decide (60 < o.size) = false := by simp; omega
  go_enter Try.func5, Try.ntmps5
  go_wp2_with fail
  refine (head_calls _).mono ?_
  rintro e w0 ⟨rfl, hb0⟩
  have hR0 := hR.below hb0
  have hM0 := hM.below hb0
  clear hR hM
  go_wp2_with fail
  refine (few_is _ hR0 (by unfold maxLen; omega) (few_max HK60) HF.out).mono ?_
  rintro e w' ⟨rfl, rfl⟩
  go_wp2_with fail
  refine (few_is _ hM0 (by unfold maxLen; omega) (few_max HK60') HF'.out).mono ?_
  rintro e w' ⟨rfl, rfl⟩
  go_wp2_with fail
  refine (new_calls _).mono ?_
  rintro e w1 ⟨rfl, hw1⟩
  obtain ⟨g, hg⟩ : ∃ g, w0.heap.size = g := ⟨_, rfl⟩
  have hT1 : Tab (fun k => g ≤ k) w1 g [] := by rw [hw1, ← hg]; exact tab_new w0 _ (Nat.le_refl _)
  have hb1 : Below g w0 w1 := by rw [hw1, ← hg]; exact (Below.refl _ _).alloc (Nat.le_refl _) _
  have hK1 : Keeps (fun k => g ≤ k) w0 w1 := Keeps.of_below hb1 (fun _ h => h)
  have HG := Lib.hid hg
  rw [hg]
  clear hw1 hg hb1
  go_wp2_with fail
  go_loopw [40] (fun i wr => ∃ k : Nat, k ≤ ss.length ∧ i = .int .i64 k ∧ Tab (fun k => g ≤ k) wr g (uniq (ss.take k)) ∧ Keeps (fun k => g ≤ k) w0 wr)
    (fun i _ => ss.length - (intOf i).toNat)
  case atStart => exact ⟨0, Nat.zero_le _, rfl, hT1, hK1⟩
  case round =>
    clear hT1 hK1
    obtain ⟨k, hk, rfl, hT, hK⟩ := hrel
    have hb2r : Below w0.heap.size w0 wr := hK.below (Nat.le_refl _) (fun k hk => by rw [HG.out]; exact hk)
    by_cases hlt : k < ss.length
    · obtain ⟨b, off, rfl, hb, hcell⟩ := (hR0.below hb2r).at hlt
      have hsz := HK60.out k hlt
      have U1 := Lib.hid (uniq_take hlt)
      have hul : (uniq (ss.take k)).length ≤ 60 := Nat.le_trans (uniq_len _) (by simp; omega)
      generalize ss.getD k ByteArray.empty = s at *
      go_wp2_with fail
      refine (id_calls hT s (by unfold maxLen; omega) (by omega) (fun k hk => by have := hK.size; rw [HG.out] at this; omega)).mono ?_
      rintro e w3 ⟨rfl, hT3, hK3⟩
      have hKK := hK.trans hK3
      rw [← U1.out] at hT3
      clear hT hK3 hcell hb2r hK
      go_wp2_with fail
      go_roundw
      case rel => exact ⟨k + 1, by omega, by go_num, hT3, hKK⟩
      case measure => simp [intOf]; omega
    · obtain rfl : k = ss.length := by omega
      rw [List.take_length] at hT
      obtain ⟨wt, rfl⟩ : ∃ x, x = wr := ⟨wr, rfl⟩
      have hUl : (uniq ss).length ≤ 60 := Nat.le_trans (uniq_len ss) hl
      obtain ⟨U, hU⟩ : ∃ U, uniq ss = U := ⟨_, rfl⟩
      rw [hU] at hT hUl
      have HU := Lib.hid hU
      clear hU hK
      go_wp2_with fail
      refine (clone_calls hT (by omega)).mono ?_
      rintro e w3 ⟨gu, rfl, hTu, hb3⟩
      have hT0 := hT
      clear hT
      go_wp2_with fail
      go_loopw [52] (fun i wr => ∃ k : Nat, k ≤ ms.length ∧ i = .int .i64 k ∧ Tab (fun k => wt.heap.size ≤ k) wr gu (more U (ms.take k)) ∧ Keeps (fun k => wt.heap.size ≤ k) w3 wr)
        (fun i _ => ms.length - (intOf i).toNat)
      case atStart => exact ⟨0, Nat.zero_le _, rfl, hTu, Keeps.refl _ _⟩
      case round =>
        clear hTu
        obtain ⟨k, hk, rfl, hT, hK⟩ := hrel
        have hbt : Below wt.heap.size wt wr := hb3.trans (hK.below hb3.size (fun _ h => h))
        have hb0r : Below w0.heap.size w0 wr := hb2r.trans (hbt.mono hb2r.size)
        by_cases hlt2 : k < ms.length
        · obtain ⟨b, off, rfl, hb, hcell⟩ := (hM0.below hb0r).at hlt2
          have hsz := HK60'.out k hlt2
          have U1 := Lib.hid (more_take (U := U) hlt2)
          have hul : (more U (ms.take k)).length ≤ 120 := Nat.le_trans (more_len _ _) (by simp; omega)
          generalize ms.getD k ByteArray.empty = s at *
          go_wp2_with fail
          refine (id_calls hT s (by unfold maxLen; omega) (by omega) (fun k hk => Nat.le_trans (Nat.le_trans hb3.size hK.size) hk)).mono ?_
          rintro e w4 ⟨rfl, hT4, hK4⟩
          have hKK := hK.trans hK4
          rw [← U1.out] at hT4
          clear hT hK4 hcell hbt hb0r hK
          go_wp2_with fail
          go_roundw
          case rel => exact ⟨k + 1, by omega, by go_num, hT4, hKK⟩
          case measure => simp [intOf]; omega
        · obtain rfl : k = ms.length := by omega
          rw [List.take_length] at hT
          have hVl : (more U ms).length ≤ 120 := Nat.le_trans (more_len _ _) (by omega)
          have hTt := hT0.below hbt
          have hRr := hR0.below hb0r
          have hMr := hM0.below hb0r
          have hbel : Below w.heap.size w wr := hb0.trans (hb0r.mono hb0.size)
          obtain ⟨wv, rfl⟩ : ∃ x, x = wr := ⟨wr, rfl⟩
          obtain ⟨V, hV⟩ : ∃ V, more U ms = V := ⟨_, rfl⟩
          have hVat : ∀ i, i < U.length → i < V.length ∧ V.getD i ByteArray.empty = U.getD i ByteArray.empty := fun i hi => by rw [← hV]; exact more_at hi
          rw [hV] at hT hVl
          have HV := Lib.hid hV
          have HVat := Lib.hid hVat
          clear hV hVat hT0 hbt hb0r hK hb3 hb2r hR0 hM0 hb0
          go_wp2_with fail
          refine (texts_calls _ _ ss _ hRr (by omega)).mono ?_
          rintro e w5 ⟨aA, cA, rfl, hA5, hb5, _⟩
          rw [HU.out] at hA5 ⊢
          have hTt5 := hTt.below hb5
          have hTu5 := hT.below hb5
          have hR5 := hRr.below hb5
          have hM5 := hMr.below hb5
          have hbel5 : Below w.heap.size w w5 := hbel.trans (hb5.mono hbel.size)
          clear hTt hT hRr hMr hbel hb5
          go_wp2_with fail
          go_loop [64] (fun i => ∃ k : Nat, k ≤ U.length ∧ i = .int .i64 k) (fun i => U.length - (intOf i).toNat)
          case atStart => exact ⟨0, Nat.zero_le _, rfl⟩
          case round =>
            obtain ⟨k, hk, rfl⟩ := hrel
            by_cases hlt3 : k < U.length
            · obtain ⟨b, off, rfl, hb, hcell⟩ := hA5.at hlt3
              obtain ⟨hv1, hv2⟩ := HVat.out k hlt3
              have tx := text_in hTt5 (k : Int) (by omega) (by unfold inT; simp; omega)
              have ty := text_in hTu5 (k : Int) (by omega) (by unfold inT; simp; omega)
              have e1 : atT U (k : Int) = U.getD k ByteArray.empty := by unfold atT; rw [Int.toNat_natCast]
              have e2 : atT V (k : Int) = U.getD k ByteArray.empty := by unfold atT; rw [Int.toNat_natCast, hv2]
              rw [e1] at tx
              rw [e2] at ty
              clear e1 e2 hv2
              have TX := Lib.hid tx
              have TY := Lib.hid ty
              clear tx ty
              generalize U.getD k ByteArray.empty = t at *
              have ts : (t.toList == t.toList) = true := by simp
              have ts2 : (t.toList != t.toList) = false := by simp
              go_wp2_with fail
              refine TX.out.mono ?_
              rintro e w' ⟨rfl, rfl⟩
              go_wp2_with fail
              refine TY.out.mono ?_
              rintro e w' ⟨rfl, rfl⟩
              go_wp2_with fail
              go_round
              case rel => exact ⟨k + 1, by omega, by go_num⟩
              case measure => simp [intOf]; omega
            · obtain rfl : k = U.length := by omega
              have hmm : mem U o = true ∨ mem U o = false := by cases mem U o <;> simp
              obtain ⟨D, hD⟩ : ∃ D, w5.heap.size = D := ⟨_, rfl⟩
              have HD := Lib.hid hD
              have hDl : D ≤ w5.heap.size := Nat.le_of_eq hD.symm
              clear hD
              have hr6 := hR5.below ((Below.refl w5.heap.size w5).alloc (Nat.le_refl _) (.cells #[] 9))
              have hb6 : Below D w5 (w5.alloc (.cells #[] 9)) := (Below.refl D w5).alloc hDl _
              have hown5 := World.ownsRow_made (base := D) (e := 9) (size := 1) w5 #[] 0 hDl (by decide) rfl
              have HO5 := Lib.hid hown5
              have HR6 := Lib.hid hr6
              have HB6 := Lib.hid hb6
              clear hr6 hb6 hown5 hR5
              rcases hmm with hmm | hmm
              all_goals
                have fc := find_calls hTt5 o (show o.size ≤ maxLen by unfold maxLen; omega)
                have ac : ∀ w', SRow w' aA U → Calls Try.prog 12 #[.slice aA U.length cA, .string o] w' fun e w'' => e = .returned (.int .i64 (placeI U o)) ∧ w' = w'' := fun w' h => at_calls aA cA U o w' h (by omega)
                rw [placeOr0, hmm] at fc
                rw [placeI, hmm] at ac
                simp only [Bool.false_eq_true, if_true, if_false] at fc ac
                have FC := Lib.hid fc
                have AC := Lib.hid ac
                clear fc ac hmm
                generalize place U o = q at *
                have hq : decide ((0 : Int) ≤ (q : Int)) = true := by simp
                go_wp2_with (first
                  | (go_at_call 13; refine FC.out.mono ?_; rintro e w' ⟨rfl, rfl⟩)
                  | (go_at_call 14; (with_reducible refine (len_calls hTt5).mono ?_); rintro e w' ⟨rfl, rfl⟩)
                  | (go_at_call 14; (with_reducible refine (len_calls hTu5).mono ?_); rintro e w' ⟨rfl, rfl⟩)
                  | (at_builtin; refine append_strs _ (by rfl) (.tmp 112) (.tmp 113) rfl D _ [] rfl HO5.out _ _ ss rfl HR6.out HCA.out (by simp; omega) (by simp; omega) ?_; intro v6 w6 hown6 hgrow6; obtain ⟨a6, c6, rfl⟩ := row_form hown6; have hb7 := app_bel HB6.out hDl hgrow6 (fun k hk => (HO5.out.lt k hk).1); rw [List.nil_append] at hown6; have HO6 := Lib.hid hown6; have HB7 := Lib.hid hb7; clear hown6 hgrow6 hb7)
                  | (at_builtin; refine append_strs _ (by rfl) (.tmp 114) (.tmp 115) rfl D _ ss rfl HO6.out _ _ ms rfl (hM5.belowB HD.out HB7.out) HCC.out (by omega) (Nat.le_trans hDl HB7.out.size) ?_; intro v7 w7 hown7 hgrow7; have hb8 := app_bel2 HB7.out hDl hgrow7 (fun k hk => (HO6.out.lt k hk).1); obtain ⟨a7, c7, rfl, hs7, _⟩ := srow_of_owns hown7; have HS7 := Lib.hid hs7; have HB8 := Lib.hid hb8; clear hown7 hgrow7 hs7 hb8))
                have tc := texts_calls a7 c7 (ss ++ ms) w7 HS7.out (by simp; omega)
                rw [uniq_append, HU.out, HV.out, List.length_append] at tc
                with_reducible refine tc.mono ?_
                rintro e w8 ⟨a8, c8, rfl, _, hb9, _⟩
                clear tc
                have hb10 : Below D w5 w8 := HB8.out.trans (hb9.mono (Nat.le_trans hDl HB8.out.size))
                have hA8 := hA5.belowB HD.out hb10
                have hbel8 : Below w.heap.size w w8 := hbel5.trans (hb10.mono (by rw [← HD.out]; exact hbel5.size))
                clear hb9
                go_wp2_with (first | (go_at_call 12; refine (AC.out _ hA8).mono ?_; rintro e w' ⟨rfl, rfl⟩))
                go_ret
                exact ⟨rfl, hbel8⟩

theorem apart_walk (a c : Option Addr) (cap cap' : Nat) (ss ms : List ByteArray) (o : ByteArray) (w : World) (hR : SRow w a ss) (hM : SRow w c ms) (hca : a = none → cap = 0) (hcc : c = none → cap' = 0) (hl : ss.length ≤ maxLen) (hl' : ms.length ≤ maxLen) (hsz : ∀ s ∈ ss, s.size ≤ maxLen) (hsz' : ∀ s ∈ ms, s.size ≤ maxLen) (ho : o.size ≤ maxLen) :
    Calls Try.prog 5 #[.slice a ss.length cap, .slice c ms.length cap', .string o] w (TrueRet w) := by
  cases hf : fewB ss
  · exact apart_skip _ _ _ _ _ _ _ _ hR hM hl hl' hsz hsz' ho (.inl hf)
  · cases hf' : fewB ms
    · exact apart_skip _ _ _ _ _ _ _ _ hR hM hl hl' hsz hsz' ho (.inr (.inl ⟨hf, hf'⟩))
    · by_cases h : 60 < o.size
      · exact apart_skip _ _ _ _ _ _ _ _ hR hM hl hl' hsz hsz' ho (.inr (.inr ⟨hf, hf', h⟩))
      · exact apart_some _ _ _ _ _ _ _ _ hR hM hca hcc hf hf' (by omega)
end Go.Proofs.Ytplckcnmpnnkgaa
