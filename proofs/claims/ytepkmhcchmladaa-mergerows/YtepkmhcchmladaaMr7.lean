/- MergeRows walked. -/
import Derived.Test.YtepkmhcchmladaaMr5
import Derived.Test.YtepkmhcchmladaaMr6
import Derived.Test.YtepkmhcchmladaaHp7
namespace Go.Proofs.Ytepkmhcchmladaa
open Go.RowKit
set_option linter.unusedVariables false
set_option linter.unusedSimpArgs false

theorem ofInt_toNat (x : Int) : (BitVec.ofInt 64 x).toNat = (x % 18446744073709551616).toNat := by simp [BitVec.toNat_ofInt]
theorem maskB (x : Int) (k : Nat) (hk : k ≤ 20) (y : Int) (hy : y = 2 ^ k - 1) : ∃ m : Nat, m < 2 ^ k ∧ bits .and .i64 x y = (m : Int) := by
  have hp : (2 : Nat) ^ k ≤ 2 ^ 20 := Nat.pow_le_pow_right (by omega) hk
  have hp1 : 1 ≤ (2 : Nat) ^ k := Nat.one_le_two_pow
  have hc : ((2 : Int) ^ k) = ((2 ^ k : Nat) : Int) := by simp
  have e : (BitVec.ofInt 64 y).toNat = 2 ^ k - 1 := by
    rw [ofInt_toNat, hy, hc]; omega
  refine ⟨(x % 18446744073709551616).toNat % 2 ^ k, Nat.mod_lt _ (by omega), ?_⟩
  show IntKind.i64.wrap ((BitVec.ofInt 64 x &&& BitVec.ofInt 64 y).toNat : Int) = _
  rw [BitVec.toNat_and, ofInt_toNat, e, Nat.and_two_pow_sub_one_eq_mod, IntKind.wrap_i64]
  have : (x % 18446744073709551616).toNat % 2 ^ k < 2 ^ k := Nat.mod_lt _ (by omega)
  omega
/-- How often a row is there. -/
def cntR (M : List (List Int)) (r : List Int) : Nat := M.countP (fun x => decide (x = r))
theorem cnt_take {M : List (List Int)} {r : List Int} {k : Nat} (h : k < M.length) : cntR (M.take (k + 1)) r = cntR (M.take k) r + (if M[k] = r then 1 else 0) := by
  unfold cntR
  rw [List.take_succ_eq_append_getElem h, List.countP_append]
  simp
theorem cnt_sorted {s : List (List Int)} (h : SortedR s) (r : List Int) : cntR s r = if r ∈ s then 1 else 0 := by
  unfold cntR
  induction s with
  | nil => simp
  | cons x s ih =>
    have h1 := (List.pairwise_cons.1 h).1
    have h2 := ih (List.pairwise_cons.1 h).2
    rw [List.countP_cons, h2]
    by_cases e : x = r
    · subst e
      have : x ∉ s := fun hm => by have := h1 x hm; rw [cmpR_self] at this; omega
      simp [this]
    · have e' : ¬ r = x := fun h => e h.symm
      simp [e, e']
def hasN (segs : List (Option Addr × List (List Int))) (r : List Int) : Nat := segs.countP (fun s => decide (r ∈ s.2))
theorem has_take {segs : List (Option Addr × List (List Int))} {r : List Int} {k : Nat} (h : k < segs.length) : hasN (segs.take (k + 1)) r = hasN (segs.take k) r + (if r ∈ segs[k].2 then 1 else 0) := by
  unfold hasN
  rw [List.take_succ_eq_append_getElem h, List.countP_append]
  simp
theorem cnt_flat {segs : List (Option Addr × List (List Int))} (h : ∀ s ∈ segs, SortedR s.2) (r : List Int) : cntR (segs.flatMap Prod.snd) r = hasN segs r := by
  unfold hasN
  induction segs with
  | nil => rfl
  | cons s segs ih =>
    rw [List.flatMap_cons, List.countP_cons]
    have h1 := cnt_sorted (h s List.mem_cons_self) r
    have h2 := ih (fun t ht => h t (List.mem_cons_of_mem _ ht))
    have h3 : cntR (s.2 ++ segs.flatMap Prod.snd) r = cntR s.2 r + cntR (segs.flatMap Prod.snd) r := by unfold cntR; rw [List.countP_append]
    rw [h3, h1, h2]
    by_cases e : r ∈ s.2 <;> simp [e, Nat.add_comm]
theorem lens_take {segs : List (Option Addr × List (List Int))} {k : Nat} (h : k < segs.length) : ((segs.take (k + 1)).flatMap Prod.snd).length = ((segs.take k).flatMap Prod.snd).length + segs[k].2.length := by
  rw [take_flat h, List.length_append]
theorem rel_total {wd : Nat} : ∀ (T : List TV), (∀ x ∈ T, x.2.1.length ≤ 60) → (T.flatMap fun x => relOf (wd : Int) (x.2.1.map (·.2.1))).length ≤ T.length * 60
  | [], _ => by simp
  | x :: T, h => by
    rw [List.flatMap_cons, List.length_append, List.length_cons]
    have h1 := rel_len (wd : Int) (x.2.1.map (·.2.1))
    rw [List.length_map] at h1
    have h2 := h x List.mem_cons_self
    have h3 := rel_total (wd := wd) T (fun y hy => h y (List.mem_cons_of_mem _ hy))
    omega
theorem flat_map_eq (segs : List (Option Addr × List (List Int))) : segs.flatMap Prod.snd = (segs.map Prod.snd).flatMap id := by
  induction segs with
  | nil => rfl
  | cons s segs ih => rw [List.flatMap_cons, ih]; rfl
theorem sets_flat {wd : Nat} {T : List TV} {segs : List (Option Addr × List (List Int))} (h : segs.map Prod.snd = setsOf wd T) : segs.flatMap Prod.snd = T.flatMap fun x => relOf (wd : Int) (x.2.1.map (·.2.1)) := by
  rw [flat_map_eq, h]
  unfold setsOf
  rw [List.flatMap_map]; rfl
theorem eq_test (x r : List Int) : (cmpR x r == 0) = decide (x = r) := by
  by_cases h : x = r
  · subst h; rw [cmpR_self, decide_eq_true rfl]; rfl
  · rw [decide_eq_false h, beq_eq_false_iff_ne]
    exact fun e => h (cmpR_eq e)
set_option maxRecDepth 100000 in
set_option maxHeartbeats 4000000 in
theorem mergeRows_walk {W : World} (width : Int) {a : Option Addr} {T : List TV} (cap : Nat) (h : TArgs W a T) (stop : Int) (hw : -9223372036854775808 ≤ width ∧ width ≤ 9223372036854775807) (hst : -9223372036854775808 ≤ stop ∧ stop ≤ 9223372036854775807) :
    Calls Try.prog 3 #[.int .i64 width, .slice a T.length cap, .int .i64 stop] W (TrueRet W) := by
  have hd := head6_calls W
  obtain ⟨B, hB⟩ : ∃ B, W.heap.size = B := ⟨_, rfl⟩
  have HB := Lib.hid hB
  have H := Lib.hid h
  obtain ⟨wd, hwd4, hwde⟩ := width5 width
  obtain ⟨st, hst1, hste⟩ := maskB stop 4 (by omega) 15 (by decide)
  clear h hB
  go_enter Try.func3, Try.ntmps3
  go_wp2_with fail
  refine hd.mono ?_
  rintro e w1 ⟨rfl, hb1⟩
  have B1 : Hid (Below B W w1) := Lib.hid (by rw [← HB.out]; exact hb1)
  have T1 : Hid (TArgs w1 a T) := Lib.hid (by
    have h := H.out
    refine ⟨?_, fun x hx => ?_, h.len⟩
    · rcases h.cells with h0 | ⟨b, off, ha, hlt, hc⟩
      · exact .inl h0
      · exact .inr ⟨b, off, ha, Nat.lt_of_lt_of_le hlt hb1.size, fun i hi => (hb1.cell (p := ⟨b, off + i, none⟩) hlt).trans (hc i hi)⟩
    · exact ⟨(h.rows x hx).1.below hb1, (h.rows x hx).2⟩)
  have cf := fewT_calls cap T1.out
  clear hd hb1
  cases hf : fewT T
  · rw [hf] at cf
    go_wp2_with fail
    refine cf.mono ?_
    rintro e w2 ⟨rfl, rfl⟩
    go_wp2_with fail
    go_ret
    exact ⟨rfl, by rw [HB.out]; exact B1.out⟩
  · rw [hf] at cf
    obtain ⟨hT8, hTx⟩ := fewT_ok hf
    have HTX := Lib.hid hTx
    have cs := sets_calls wd cap T1.out (by omega) (by omega) (fun x hx => ⟨by have := (hTx x hx).1; omega, fun y hy => by have := (hTx x hx).2 y hy; omega⟩)
    clear hf hTx
    go_wp2_with fail
    refine cf.mono ?_
    rintro e w2 ⟨rfl, rfl⟩
    go_wp2_with fail
    rw [hwde]
    refine cs.mono ?_
    rintro e w3 ⟨ad, ac, segs, rfl, hsnd, hpr, hsg, hb3⟩
    have hsl8 : segs.length ≤ 8 := by
      have := congrArg List.length hsnd
      unfold setsOf at this
      rw [List.length_map, List.length_map] at this; omega
    have htot : (segs.flatMap Prod.snd).length ≤ 480 := by
      rw [sets_flat hsnd]
      have := rel_total (wd := wd) T (fun x hx => (HTX.out x hx).1)
      omega
    have cw := walk_calls ad ac wd segs 1000 hpr hsg (by omega) (by omega) (by omega) (by omega) (by omega)
    have HPR := Lib.hid hpr
    have HS3 := Lib.hid hsg
    have HTOT := Lib.hid htot
    have B3 : Hid (Below B W w3) := Lib.hid (B1.out.trans (hb3.mono (by have := B1.out.size; rw [HB.out] at this; exact this)))
    clear cs cf hpr hsg hb3 hsnd htot
    go_wp2_with fail
    refine cw.mono ?_
    rintro e w4 ⟨ka, kc, K, rfl, hr4, hb4, hres⟩
    obtain ⟨hpm, hasc, hk1000⟩ : (segs.flatMap Prod.snd).Perm (K.map (·.2.1)) ∧ (K.map (·.2.1)).Pairwise leR ∧ K.length < 1000 := by
      rcases hres with h | ⟨h1, h2⟩
      · exact h
      · have := HTOT.out; omega
    obtain ⟨M, hM⟩ : ∃ M, K.map (·.2.1) = M := ⟨_, rfl⟩
    rw [hM] at hpm hasc
    have HM := Lib.hid hM.symm
    have HPM := Lib.hid hpm
    have HASC := Lib.hid hasc
    have HKL : Hid (K.length = (segs.flatMap Prod.snd).length) := Lib.hid (by rw [hpm.length_eq, ← hM, List.length_map])
    have HML : Hid (M.length ≤ 1000) := Lib.hid (by rw [← hM, List.length_map]; omega)
    have HR4 := Lib.hid hr4
    obtain ⟨E, hE⟩ : ∃ E, w4.heap.size = E := ⟨_, rfl⟩
    have HE := Lib.hid hE
    have B4 : Hid (Below B W w4) := Lib.hid (B3.out.trans (hb4.mono (by have := B3.out.size; rw [HB.out] at this; exact this)))
    have HBE : Hid (B ≤ E) := Lib.hid (by have := B4.out.size; rw [HB.out, hE] at this; exact this)
    have HSG : Hid (∀ s ∈ segs, Seg w4 s.1 wd s.2) := Lib.hid (fun s hs => (HS3.out s hs).below hb4)
    have HP4 := Lib.hid (HPR.out.below hb4)
    have HLE : Hid (∀ x ∈ K, x.2.1.length ≤ 1000000) := Lib.hid (fun x hx => by
      have h1 : x.2.1 ∈ segs.flatMap Prod.snd := hpm.symm.subset (by rw [← hM]; exact List.mem_map_of_mem hx)
      obtain ⟨s, hs, h2⟩ := List.mem_flatMap.1 h1
      have := (HS3.out s hs).2.1 _ h2
      omega)
    have SL : Hid (∀ k, (h : k < segs.length) → segs[k].2.length ≤ 480) := Lib.hid (fun k h => by have := mem_flat_len (List.getElem_mem h); have := HTOT.out; omega)
    have hsl : segs.length ≤ 1000 := by omega
    clear cw hr4 hb4 hres hpm hasc hM hE
    obtain ⟨pb, po, had, PLT, PC⟩ : ∃ pb po, (segs = [] ∨ ad = ⟨pb, po, none⟩) ∧ Hid (segs ≠ [] → pb < E) ∧ Hid (∀ k, (h : k < segs.length) → w4.cell? ⟨pb, po + k, none⟩ = some (.pointer segs[k].1)) := by
      rcases HP4.out with h0 | ⟨b, off, h1, h2, h3⟩
      · exact ⟨0, 0, .inl (by simpa using h0), Lib.hid (fun h => absurd (by simpa using h0) h), Lib.hid (fun k h => by simp at h0; rw [h0] at h; simp at h)⟩
      · refine ⟨b, off, .inr (by simpa using h1), Lib.hid (fun _ => by rw [← HE.out]; exact h2), Lib.hid (fun k h => ?_)⟩
        have := h3 k (by simpa using h)
        rw [this]; simp [h]
    have HAD := Lib.hid had
    obtain ⟨kb, ko, hkad, KC⟩ : ∃ kb ko, (K = [] ∨ ka = some ⟨kb, ko, none⟩) ∧ Hid (∀ wr, Below E w4 wr → ∀ i, i < K.length → wr.cell? ⟨kb, ko + i, none⟩ = some (.slice (atV K i).1 (atV K i).2.1.length (atV K i).2.2) ∧ Row wr (atV K i).1 (atV K i).2.1) := by
      rcases HR4.out.1 with h0 | ⟨b, off, h1, h2, h3⟩
      · exact ⟨0, 0, .inl h0, Lib.hid (fun wr _ i hi => by rw [h0] at hi; simp at hi)⟩
      · exact ⟨b, off, .inr h1, Lib.hid (fun wr hb i hi => ⟨(hb.cell (p := ⟨b, off + i, none⟩) (by rw [← HE.out]; exact h2)).trans (h3 i hi), (HR4.out.2 _ (atV_mem hi)).1.below (by rw [HE.out]; exact hb)⟩)⟩
    have KAD := Lib.hid hkad
    clear hkad
    have NE : ∀ k, k < segs.length → segs ≠ [] := fun k h e => by rw [e] at h; simp at h
    clear had
    go_wp2_with fail
    go_loopw [34, 9] (fun s v wr => ∃ (k c : Nat), k ≤ segs.length ∧ s = .int .i64 k ∧ v = .int .i64 c ∧ c ≤ 480 ∧ Hid (c = ((segs.take k).flatMap Prod.snd).length) ∧ Hid (w4 = wr)) (fun s _ _ => segs.length - (intOf s).toNat)
    case atStart => exact ⟨0, 0, Nat.zero_le _, rfl, rfl, by omega, Lib.hid (by simp), Lib.hid rfl⟩
    case round =>
      obtain ⟨k, c, hk, rfl, rfl, hc, HC, HW⟩ := hrel
      obtain rfl := HW.out
      by_cases hlt : k < segs.length
      · have cl := segLen_calls (HSG.out _ (List.getElem_mem hlt))
        obtain rfl := HAD.out.resolve_left (NE k hlt)
        have hcp := PC.out k hlt
        have hsl2 := SL.out k hlt
        have HCT := Lib.hid (lens_take hlt)
        have hct : c + segs[k].2.length ≤ 480 := by
          have h1 := flat_le (segs := segs) (k + 1)
          rw [HCT.out, ← HC.out] at h1
          have := HTOT.out; omega
        generalize segs[k] = sg at *
        obtain ⟨sp, srs⟩ := sg
        dsimp only at cl hcp hsl2 HCT hct
        go_wp2_with fail
        refine cl.mono ?_
        rintro e wq ⟨rfl, rfl⟩
        clear cl hcp
        go_wp2_with fail
        go_roundw
        case rel => exact ⟨k + 1, c + srs.length, by omega, by go_num, by go_num, hct, Lib.hid (by rw [HCT.out, ← HC.out]), by first | exact Lib.hid rfl | exact Lib.hid trivial⟩
        case measure => simp [intOf]; omega
      · obtain rfl : k = segs.length := by omega
        have tl : decide ((segs.length : Int) < (segs.length : Int)) = false := decide_eq_false (by omega)
        obtain rfl : c = K.length := by rw [HKL.out, HC.out, List.take_length]
        have tn : (((K.length : Int)) != (K.length : Int)) = false := by simp
        go_wp2_with fail
        go_loopw [49] (fun s wr => ∃ k : Nat, k ≤ K.length ∧ s = .int .i64 k ∧ Hid (Below E w4 wr)) (fun s _ => K.length - (intOf s).toNat)
        case atStart => exact ⟨0, Nat.zero_le _, rfl, Lib.hid (Below.refl _ _)⟩
        case round =>
          obtain ⟨k, hk, rfl, HB2⟩ := hrel
          obtain ⟨wx, rfl⟩ : ∃ x, x = wr := ⟨wr, rfl⟩
          by_cases hlt : k < K.length
          · obtain ⟨r, hr⟩ : ∃ r, (atV K k).2.1 = r := ⟨_, rfl⟩
            have HRR := Lib.hid hr
            obtain rfl := KAD.out.resolve_left (fun e => by rw [e] at hlt; simp at hlt)
            clear hr
            by_cases hk0 : k = 0
            · have q7 : decide (0 < k) = false := decide_eq_false (by omega)
              have q8 : decide ((0 : Int) < (k : Int)) = false := decide_eq_false (by omega)
              clear hk0
              go_wp2_with fail
              go_quiet (fail)
              have HBX : Hid (Below E w4 (wx.drewN nq)) := Lib.hid (below_drewN HB2.out _)
              clear q7 q8
              go_wp2_with fail
              go_loopw [69, 13] (fun s v wv => ∃ (k3 c : Nat), k3 ≤ K.length ∧ s = .int .i64 k3 ∧ v = .int .i64 c ∧ c ≤ 1000 ∧ Hid (c = cntR (M.take k3) r) ∧ Hid (Below E w4 wv)) (fun s _ _ => K.length - (intOf s).toNat)
              case atStart => exact ⟨0, 0, Nat.zero_le _, rfl, rfl, by omega, Lib.hid rfl, HBX⟩
              case round =>
                obtain ⟨k3, c, hk3, rfl, rfl, hc1, HC3, HB3⟩ := hrel
                by_cases hlt3 : k3 < K.length
                · obtain ⟨hcl1, hrow1⟩ := KC.out _ HB3.out k3 hlt3
                  obtain ⟨hcl2, hrow2⟩ := KC.out _ HB3.out k hlt
                  have hx1 := HLE.out _ (atV_mem hlt3)
                  have hx2 := HLE.out _ (atV_mem hlt)
                  have cmp := lawCompare_calls _ _ (atV K k3).2.2 (atV K k).2.2 _ _ wr hrow1 hrow2 hx1 hx2
                  have HE3 : Hid ((atV K k3).2.1 = M[k3]?.getD []) := Lib.hid (by rw [HM.out]; simp [atV, hlt3])
                  have HCT : Hid (cntR (M.take (k3 + 1)) r = cntR (M.take k3) r + (if (atV K k3).2.1 = r then 1 else 0)) := Lib.hid (by
                    have hl3 : k3 < M.length := by rw [HM.out, List.length_map]; exact hlt3
                    rw [cnt_take hl3, HE3.out]; simp [hl3])
                  have HRK : Hid ((atV K k).2.1 = r) := HRR
                  have et := eq_test (atV K k3).2.1 (atV K k).2.1
                  have ekk : K.length = K.length := rfl
                  clear hrow1 hrow2 hx1 hx2 HE3
                  generalize atV K k3 = y at *
                  generalize atV K k = z at *
                  obtain ⟨ya, yz, yc⟩ := y
                  obtain ⟨za, zz, zc⟩ := z
                  dsimp only at hcl1 hcl2 cmp HCT HRK et
                  go_wp2_with fail
                  refine cmp.mono ?_
                  rintro e wq ⟨rfl, q, rfl⟩
                  have HB3' := Lib.hid (below_drewN HB3.out q)
                  obtain ⟨cv, hcv⟩ : ∃ cv, cmpR yz zz = cv := ⟨_, rfl⟩
                  rw [hcv] at et ⊢
                  clear cmp hcl1 hcl2
                  by_cases hyz : yz = zz
                  · rw [decide_eq_true hyz] at et
                    have HYZ := Lib.hid hyz
                    clear hyz hcv
                    go_wp2_with fail
                    go_roundw
                    case rel => exact ⟨k3 + 1, c + 1, by omega, by go_num, by go_num, by have := HCT.out; rw [HYZ.out, if_pos HRK.out, ← HC3.out] at this; have h8 : cntR (M.take (k3 + 1)) r ≤ 1000 := Nat.le_trans (List.countP_le_length ..) (Nat.le_trans (by rw [List.length_take]; exact Nat.min_le_right _ _) HML.out); omega, Lib.hid (by rw [HCT.out, ← HC3.out, HYZ.out, if_pos HRK.out]), HB3'⟩
                    case measure => simp [intOf]; omega
                  · rw [decide_eq_false hyz] at et
                    have HYZ := Lib.hid hyz
                    clear hyz hcv
                    go_wp2_with fail
                    go_roundw
                    case rel => exact ⟨k3 + 1, c, by omega, by go_num, by go_num, hc1, Lib.hid (by rw [HCT.out, ← HC3.out, if_neg (fun e => HYZ.out (e.trans HRK.out.symm))]; omega), HB3'⟩
                    case measure => simp [intOf]; omega
                · obtain rfl : k3 = K.length := by omega
                  have tl3 : decide ((K.length : Int) < (K.length : Int)) = false := decide_eq_false (by omega)
                  have HCC : Hid (c = hasN segs r) := Lib.hid (by
                    rw [HC3.out, List.take_of_length_le (by rw [HM.out, List.length_map]; exact Nat.le_refl _)]
                    have h9 : cntR M r = cntR (segs.flatMap Prod.snd) r := (HPM.out.countP_eq _).symm
                    rw [h9, cnt_flat (fun s hs => (HSG.out s hs).1)])
                  obtain ⟨wm, rfl⟩ : ∃ x, x = wr := ⟨wr, rfl⟩
                  go_wp2_with fail
                  go_loopw [85, 13] (fun s v wu => ∃ (k4 : Nat) (d : Int), k4 ≤ segs.length ∧ s = .int .i64 k4 ∧ v = .int .i64 d ∧ -1000 ≤ d ∧ d ≤ 1000 ∧ Hid (d = (c : Int) - (hasN (segs.take k4) r : Int)) ∧ Hid (Below E w4 wu)) (fun s _ _ => segs.length - (intOf s).toNat)
                  case atStart => exact ⟨0, c, Nat.zero_le _, rfl, rfl, by omega, by omega, Lib.hid (by simp [hasN]), HB3⟩
                  case round =>
                    obtain ⟨k4, d, hk4, rfl, rfl, hd1, hd2, HD4, HB4⟩ := hrel
                    by_cases hlt4 : k4 < segs.length
                    · obtain ⟨hcl2, hrow2⟩ := KC.out _ HB4.out k hlt
                      have hx2 := HLE.out _ (atV_mem hlt)
                      have hsg := (HSG.out _ (List.getElem_mem hlt4)).below (by rw [HE.out]; exact HB4.out)
                      obtain rfl := HAD.out.resolve_left (NE k4 hlt4)
                      have hcp := (PC.out k4 hlt4)
                      have hcp2 : wr.cell? ⟨pb, po + k4, none⟩ = some (.pointer segs[k4].1) := (HB4.out.cell (p := ⟨pb, po + k4, none⟩) (PLT.out (NE k4 hlt4))).trans hcp
                      have chas := has_calls hsg _ (atV K k).2.2 _ hrow2 hx2 (by omega) (by have := SL.out k4 hlt4; omega)
                      have HRK : Hid ((atV K k).2.1 = r) := HRR
                      have HHT : Hid (hasN (segs.take (k4 + 1)) r = hasN (segs.take k4) r + (if r ∈ segs[k4].2 then 1 else 0)) := Lib.hid (has_take hlt4)
                      have hc4 : hasN (segs.take (k4 + 1)) r ≤ 1000 := Nat.le_trans (List.countP_le_length ..) (Nat.le_trans (by simp; omega) hsl)
                      clear hrow2 hx2 hsg hcp
                      generalize segs[k4] = sg at *
                      obtain ⟨sp, srs⟩ := sg
                      generalize atV K k = z at *
                      obtain ⟨za, zz, zc⟩ := z
                      dsimp only at hcl2 chas HRK HHT hcp2
                      by_cases hin : zz ∈ srs
                      · rw [decide_eq_true hin] at chas
                        have HIN := Lib.hid hin
                        have hd1' : -999 ≤ d := by have := HHT.out; rw [← HRK.out, if_pos hin, HRK.out] at this; have := HD4.out; omega
                        clear hin
                        go_wp2_with fail
                        refine chas.mono ?_
                        rintro e wz ⟨rfl, hbz⟩
                        have HBZ := Lib.hid (HB4.out.trans (hbz.mono (by have := HB4.out.size; rw [HE.out] at this; exact this)))
                        clear chas hcl2 hbz hcp2
                        go_wp2_with fail
                        go_roundw
                        case rel => exact ⟨k4 + 1, d - 1, by omega, by go_num, by go_num, by omega, by omega, Lib.hid (by rw [HD4.out, HHT.out, if_pos (by rw [← HRK.out]; exact HIN.out)]; omega), HBZ⟩
                        case measure => simp [intOf]; omega
                      · rw [decide_eq_false hin] at chas
                        have HIN := Lib.hid hin
                        clear hin
                        go_wp2_with fail
                        refine chas.mono ?_
                        rintro e wz ⟨rfl, hbz⟩
                        have HBZ := Lib.hid (HB4.out.trans (hbz.mono (by have := HB4.out.size; rw [HE.out] at this; exact this)))
                        clear chas hcl2 hbz hcp2
                        go_wp2_with fail
                        go_roundw
                        case rel => exact ⟨k4 + 1, d, by omega, by go_num, by go_num, hd1, hd2, Lib.hid (by rw [HD4.out, HHT.out, if_neg (by rw [← HRK.out]; exact HIN.out)]; omega), HBZ⟩
                        case measure => simp [intOf]; omega
                    · obtain rfl : k4 = segs.length := by omega
                      have tl4 : decide ((segs.length : Int) < (segs.length : Int)) = false := decide_eq_false (by omega)
                      obtain rfl : d = 0 := by have := HD4.out; rw [List.take_length, HCC.out] at this; omega
                      go_wp2_with fail
                      go_roundw
                      case rel => exact ⟨k + 1, by omega, by go_num, HB4⟩
                      case measure => simp [intOf]; omega
            · obtain ⟨j, hj⟩ : ∃ j, k - 1 = j := ⟨_, rfl⟩
              have hjl : j < K.length := by omega
              obtain ⟨hcl1, hrow1⟩ := KC.out _ HB2.out j hjl
              obtain ⟨hcl2, hrow2⟩ := KC.out _ HB2.out k hlt
              have hle : cmpR (atV K j).2.1 (atV K k).2.1 ≤ 0 := by
                have h1 := List.pairwise_iff_getElem.1 HASC.out j k (by rw [HM.out, List.length_map]; exact hjl) (by rw [HM.out, List.length_map]; exact hlt) (by omega)
                have e1 : M[j]'(by rw [HM.out, List.length_map]; exact hjl) = (atV K j).2.1 := by simp [HM.out, atV, hjl]
                have e2 : M[k]'(by rw [HM.out, List.length_map]; exact hlt) = (atV K k).2.1 := by simp [HM.out, atV, hlt]
                rw [e1, e2] at h1; exact h1
              have hx1 := HLE.out _ (atV_mem hjl)
              have hx2 := HLE.out _ (atV_mem hlt)
              obtain ⟨cv, hcv⟩ : ∃ cv, cmpR (atV K j).2.1 (atV K k).2.1 = cv := ⟨_, rfl⟩
              have cc : ∀ m, Calls Try.prog 13 #[.slice (atV K j).1 (atV K j).2.1.length (atV K j).2.2, .slice (atV K k).1 (atV K k).2.1.length (atV K k).2.2] (wx.drewN m) (Quiet (.int .i64 cv) (wx.drewN m)) := fun m => by
                rw [← hcv]
                exact lawCompare_calls _ _ _ _ _ _ _ (hrow1.drewN m) (hrow2.drewN m) hx1 hx2
              rw [hcv] at hle
              have q1 : ((k : Int) - 1).toNat = j := by omega
              have q2 : (0 : Int) ≤ (k : Int) - 1 := by omega
              have q3 : (k : Int) - 1 < (K.length : Int) := by omega
              have q4 : (k : Int) < (K.length : Int) := by omega
              have q5 : (0 : Int) ≤ (k : Int) := by omega
              have q6 : (0 : Int) < (k : Int) := by omega
              have q7 : decide ((0 : Int) < cv) = false := decide_eq_false (by omega)
              have q8 : ¬ (0 : Int) < cv := by omega
              have q9 : decide (0 < k) = true := decide_eq_true (by omega)
              have q10 : 0 < k := by omega
              clear hrow1 hrow2 hx1 hx2 hcv hj
              generalize Value.slice (atV K j).1 (atV K j).2.1.length (atV K j).2.2 = vj at *
              generalize Value.slice (atV K k).1 (atV K k).2.1.length (atV K k).2.2 = vk at *
              go_wp2_with fail
              go_quiet ((exact Calls.quiet_of (cc _)))
              have HBX : Hid (Below E w4 (wx.drewN nq)) := Lib.hid (below_drewN HB2.out _)
              clear cc hcl1 hcl2 hk0 q1 q2 q3 q4 q5 q6 q7 q8 q9 q10
              go_wp2_with fail
              go_loopw [69, 13] (fun s v wv => ∃ (k3 c : Nat), k3 ≤ K.length ∧ s = .int .i64 k3 ∧ v = .int .i64 c ∧ c ≤ 1000 ∧ Hid (c = cntR (M.take k3) r) ∧ Hid (Below E w4 wv)) (fun s _ _ => K.length - (intOf s).toNat)
              case atStart => exact ⟨0, 0, Nat.zero_le _, rfl, rfl, by omega, Lib.hid rfl, HBX⟩
              case round =>
                obtain ⟨k3, c, hk3, rfl, rfl, hc1, HC3, HB3⟩ := hrel
                by_cases hlt3 : k3 < K.length
                · obtain ⟨hcl1, hrow1⟩ := KC.out _ HB3.out k3 hlt3
                  obtain ⟨hcl2, hrow2⟩ := KC.out _ HB3.out k hlt
                  have hx1 := HLE.out _ (atV_mem hlt3)
                  have hx2 := HLE.out _ (atV_mem hlt)
                  have cmp := lawCompare_calls _ _ (atV K k3).2.2 (atV K k).2.2 _ _ wr hrow1 hrow2 hx1 hx2
                  have HE3 : Hid ((atV K k3).2.1 = M[k3]?.getD []) := Lib.hid (by rw [HM.out]; simp [atV, hlt3])
                  have HCT : Hid (cntR (M.take (k3 + 1)) r = cntR (M.take k3) r + (if (atV K k3).2.1 = r then 1 else 0)) := Lib.hid (by
                    have hl3 : k3 < M.length := by rw [HM.out, List.length_map]; exact hlt3
                    rw [cnt_take hl3, HE3.out]; simp [hl3])
                  have HRK : Hid ((atV K k).2.1 = r) := HRR
                  have et := eq_test (atV K k3).2.1 (atV K k).2.1
                  have ekk : K.length = K.length := rfl
                  clear hrow1 hrow2 hx1 hx2 HE3
                  generalize atV K k3 = y at *
                  generalize atV K k = z at *
                  obtain ⟨ya, yz, yc⟩ := y
                  obtain ⟨za, zz, zc⟩ := z
                  dsimp only at hcl1 hcl2 cmp HCT HRK et
                  go_wp2_with fail
                  refine cmp.mono ?_
                  rintro e wq ⟨rfl, q, rfl⟩
                  have HB3' := Lib.hid (below_drewN HB3.out q)
                  obtain ⟨cv, hcv⟩ : ∃ cv, cmpR yz zz = cv := ⟨_, rfl⟩
                  rw [hcv] at et ⊢
                  clear cmp hcl1 hcl2
                  by_cases hyz : yz = zz
                  · rw [decide_eq_true hyz] at et
                    have HYZ := Lib.hid hyz
                    clear hyz hcv
                    go_wp2_with fail
                    go_roundw
                    case rel => exact ⟨k3 + 1, c + 1, by omega, by go_num, by go_num, by have := HCT.out; rw [HYZ.out, if_pos HRK.out, ← HC3.out] at this; have h8 : cntR (M.take (k3 + 1)) r ≤ 1000 := Nat.le_trans (List.countP_le_length ..) (Nat.le_trans (by rw [List.length_take]; exact Nat.min_le_right _ _) HML.out); omega, Lib.hid (by rw [HCT.out, ← HC3.out, HYZ.out, if_pos HRK.out]), HB3'⟩
                    case measure => simp [intOf]; omega
                  · rw [decide_eq_false hyz] at et
                    have HYZ := Lib.hid hyz
                    clear hyz hcv
                    go_wp2_with fail
                    go_roundw
                    case rel => exact ⟨k3 + 1, c, by omega, by go_num, by go_num, hc1, Lib.hid (by rw [HCT.out, ← HC3.out, if_neg (fun e => HYZ.out (e.trans HRK.out.symm))]; omega), HB3'⟩
                    case measure => simp [intOf]; omega
                · obtain rfl : k3 = K.length := by omega
                  have tl3 : decide ((K.length : Int) < (K.length : Int)) = false := decide_eq_false (by omega)
                  have HCC : Hid (c = hasN segs r) := Lib.hid (by
                    rw [HC3.out, List.take_of_length_le (by rw [HM.out, List.length_map]; exact Nat.le_refl _)]
                    have h9 : cntR M r = cntR (segs.flatMap Prod.snd) r := (HPM.out.countP_eq _).symm
                    rw [h9, cnt_flat (fun s hs => (HSG.out s hs).1)])
                  obtain ⟨wm, rfl⟩ : ∃ x, x = wr := ⟨wr, rfl⟩
                  go_wp2_with fail
                  go_loopw [85, 13] (fun s v wu => ∃ (k4 : Nat) (d : Int), k4 ≤ segs.length ∧ s = .int .i64 k4 ∧ v = .int .i64 d ∧ -1000 ≤ d ∧ d ≤ 1000 ∧ Hid (d = (c : Int) - (hasN (segs.take k4) r : Int)) ∧ Hid (Below E w4 wu)) (fun s _ _ => segs.length - (intOf s).toNat)
                  case atStart => exact ⟨0, c, Nat.zero_le _, rfl, rfl, by omega, by omega, Lib.hid (by simp [hasN]), HB3⟩
                  case round =>
                    obtain ⟨k4, d, hk4, rfl, rfl, hd1, hd2, HD4, HB4⟩ := hrel
                    by_cases hlt4 : k4 < segs.length
                    · obtain ⟨hcl2, hrow2⟩ := KC.out _ HB4.out k hlt
                      have hx2 := HLE.out _ (atV_mem hlt)
                      have hsg := (HSG.out _ (List.getElem_mem hlt4)).below (by rw [HE.out]; exact HB4.out)
                      obtain rfl := HAD.out.resolve_left (NE k4 hlt4)
                      have hcp := (PC.out k4 hlt4)
                      have hcp2 : wr.cell? ⟨pb, po + k4, none⟩ = some (.pointer segs[k4].1) := (HB4.out.cell (p := ⟨pb, po + k4, none⟩) (PLT.out (NE k4 hlt4))).trans hcp
                      have chas := has_calls hsg _ (atV K k).2.2 _ hrow2 hx2 (by omega) (by have := SL.out k4 hlt4; omega)
                      have HRK : Hid ((atV K k).2.1 = r) := HRR
                      have HHT : Hid (hasN (segs.take (k4 + 1)) r = hasN (segs.take k4) r + (if r ∈ segs[k4].2 then 1 else 0)) := Lib.hid (has_take hlt4)
                      have hc4 : hasN (segs.take (k4 + 1)) r ≤ 1000 := Nat.le_trans (List.countP_le_length ..) (Nat.le_trans (by simp; omega) hsl)
                      clear hrow2 hx2 hsg hcp
                      generalize segs[k4] = sg at *
                      obtain ⟨sp, srs⟩ := sg
                      generalize atV K k = z at *
                      obtain ⟨za, zz, zc⟩ := z
                      dsimp only at hcl2 chas HRK HHT hcp2
                      by_cases hin : zz ∈ srs
                      · rw [decide_eq_true hin] at chas
                        have HIN := Lib.hid hin
                        have hd1' : -999 ≤ d := by have := HHT.out; rw [← HRK.out, if_pos hin, HRK.out] at this; have := HD4.out; omega
                        clear hin
                        go_wp2_with fail
                        refine chas.mono ?_
                        rintro e wz ⟨rfl, hbz⟩
                        have HBZ := Lib.hid (HB4.out.trans (hbz.mono (by have := HB4.out.size; rw [HE.out] at this; exact this)))
                        clear chas hcl2 hbz hcp2
                        go_wp2_with fail
                        go_roundw
                        case rel => exact ⟨k4 + 1, d - 1, by omega, by go_num, by go_num, by omega, by omega, Lib.hid (by rw [HD4.out, HHT.out, if_pos (by rw [← HRK.out]; exact HIN.out)]; omega), HBZ⟩
                        case measure => simp [intOf]; omega
                      · rw [decide_eq_false hin] at chas
                        have HIN := Lib.hid hin
                        clear hin
                        go_wp2_with fail
                        refine chas.mono ?_
                        rintro e wz ⟨rfl, hbz⟩
                        have HBZ := Lib.hid (HB4.out.trans (hbz.mono (by have := HB4.out.size; rw [HE.out] at this; exact this)))
                        clear chas hcl2 hbz hcp2
                        go_wp2_with fail
                        go_roundw
                        case rel => exact ⟨k4 + 1, d, by omega, by go_num, by go_num, hd1, hd2, Lib.hid (by rw [HD4.out, HHT.out, if_neg (by rw [← HRK.out]; exact HIN.out)]; omega), HBZ⟩
                        case measure => simp [intOf]; omega
                    · obtain rfl : k4 = segs.length := by omega
                      have tl4 : decide ((segs.length : Int) < (segs.length : Int)) = false := decide_eq_false (by omega)
                      obtain rfl : d = 0 := by have := HD4.out; rw [List.take_length, HCC.out] at this; omega
                      go_wp2_with fail
                      go_roundw
                      case rel => exact ⟨k + 1, by omega, by go_num, HB4⟩
                      case measure => simp [intOf]; omega
          · obtain rfl : k = K.length := by omega
            have tl2 : decide ((K.length : Int) < (K.length : Int)) = false := decide_eq_false (by omega)
            have cw2 := walk_calls (w := wx) ad ac wd segs (1 + st) (HP4.out.below (by rw [HE.out]; exact HB2.out)) (fun s hs => (HSG.out s hs).below (by rw [HE.out]; exact HB2.out)) (by omega) (by have := HTOT.out; omega) (by omega) (by omega) (by omega)
            rw [show ((1 + st : Nat) : Int) = 1 + (st : Int) by omega] at cw2
            go_wp2_with fail
            refine cw2.mono ?_
            rintro e w9 ⟨ka2, kc2, K2, rfl, hr9, hb9, hres⟩
            have B9 : Hid (Below B W w9) := Lib.hid (by
              have h1 : Below B W wx := B4.out.trans (HB2.out.mono HBE.out)
              exact h1.trans (hb9.mono (by have := h1.size; rw [HB.out] at this; exact this)))
            obtain ⟨m, hm, hmin, heq⟩ : ∃ m : Nat, K2.length = m ∧ min (K.length : Int) (1 + (st : Int)) = (m : Int) ∧ m ≤ 1000 := by
              refine ⟨K2.length, rfl, ?_, ?_⟩
              · rcases hres with ⟨h1, h2, h3⟩ | ⟨h1, h2⟩
                · have h4 := h1.length_eq
                  rw [List.length_map, ← HKL.out] at h4
                  rw [Int.min_eq_left (by omega)]; omega
                · rw [← HKL.out] at h2
                  rw [Int.min_eq_right (by omega)]; omega
              · rcases hres with ⟨h1, h2, h3⟩ | ⟨h1, h2⟩
                · have h4 := h1.length_eq
                  rw [List.length_map, ← HKL.out] at h4; omega
                · omega
            rw [hm]
            have tz : ((m : Int) == (m : Int)) = true := by simp
            clear cw2 hr9 hb9 hres
            go_wp2_with fail
            go_ret
            exact ⟨rfl, by rw [HB.out]; exact B9.out⟩

end Go.Proofs.Ytepkmhcchmladaa
