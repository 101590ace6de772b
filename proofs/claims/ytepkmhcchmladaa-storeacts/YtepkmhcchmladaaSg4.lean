import Derived.Test.YtepkmhcchmladaaSg3
/- Contract of slices.CompactFunc over lists of rows. -/
namespace Go.Proofs.Ytepkmhcchmladaa
open Go.RowKit
set_option linter.unusedVariables false
set_option linter.unusedSimpArgs false

/-- The first k of a row of the call's own. -/
theorem owns_front {w : World} {B g n cap k : Nat} {t : TypeId} {xs : List Value} (h : w.ownsRow B t 1 (.slice (some ⟨g, 0, none⟩) n cap) n xs) (hk : k ≤ n) : w.ownsRow B t 1 (.slice (some ⟨g, 0, none⟩) k cap) k (xs.take k) := by
  obtain ⟨hl, h2⟩ := h
  rcases h2 with ⟨h0, _⟩ | ⟨g', cap', cur, hv, hg, hh, hn, hcap, hsz, htake⟩
  · cases h0
  · cases hv
    refine ⟨by simp; omega, .inr ⟨g, cap, cur, rfl, hg, hh, by omega, hcap, hsz, ?_⟩⟩
    rw [← htake, List.take_take, Nat.min_eq_left (by omega), Nat.mul_one]
theorem owns_setCells {B g n cap : Nat} {t : TypeId} : ∀ (vs : List Value) (o : Nat) (w : World) (xs : List Value), w.ownsRow B t 1 (.slice (some ⟨g, 0, none⟩) n cap) n xs →
    ∃ ys, (w.setCells g o vs).ownsRow B t 1 (.slice (some ⟨g, 0, none⟩) n cap) n ys ∧ ys.take o = xs.take o ∧ w.grownBy (w.setCells g o vs) (some g)
  | [], o, w, xs, h => ⟨xs, h, rfl, World.grownBy.refl w _⟩
  | v :: vs, o, w, xs, h => by
    have h1 := h.stored o v
    obtain ⟨ys, hy, ht, hg⟩ := owns_setCells vs (o + 1) _ _ h1.1
    refine ⟨ys, hy, ?_, h1.2.trans hg⟩
    have := congrArg (List.take o) ht
    rw [List.take_take, List.take_take, Nat.min_eq_left (by omega)] at this
    rw [this]
    rw [List.take_set_of_le (by omega)]

theorem zero23 (w : World) : (zeroValue 33).run Try.prog w = .ok (.slice none 0 0) w := by kernel_rfl
theorem set_enc {C : List RV} {k : Nat} (x : RV) : (C.map encV).set k (encV x) = (C.set k x).map encV := by rw [List.map_set]
/-- What CompactFunc leaves: the list without repetitions, at the same block. -/
def CompRet (B : Nat) (w : World) (L : List RV) (e : Ending) (w' : World) : Prop :=
  ∃ v', e = .returned v' ∧ w'.ownsRow B 33 1 v' (compL L).length ((compL L).map encV) ∧ Below B w w'
/-- In the midst of the second loop: k rows are kept; from place j on the list is as it was. -/
structure CompMid (L C : List RV) (k j : Nat) : Prop where
  len : C.length = L.length
  front : C.take k = compL (L.take j)
  rest : ∀ i, j ≤ i + 1 → i < L.length → atV C i = atV L i
  lt : k < j
  pos : 1 ≤ k
  le : j ≤ L.length
theorem compMid_same {L C : List RV} {k j : Nat} (h : CompMid L C k j) (hj : j < L.length) (he : (atV L j).2.1 = (atV L (j - 1)).2.1) : CompMid L C k (j + 1) :=
  ⟨h.len, by rw [comp_same (by have := h.lt; omega) hj he]; exact h.front, fun i h1 h2 => h.rest i (by omega) h2, by have := h.lt; omega, h.pos, by omega⟩
theorem compMid_new {L C : List RV} {k j : Nat} (h : CompMid L C k j) (hj : j < L.length) (he : ¬ (atV L j).2.1 = (atV L (j - 1)).2.1) : CompMid L (C.set k (atV L j)) (k + 1) (j + 1) := by
  have hk := h.lt
  have hl := h.len
  refine ⟨by simp [h.len], ?_, fun i h1 h2 => ?_, by omega, by omega, by omega⟩
  · rw [comp_new (by omega) hj he, ← h.front, List.take_succ_eq_append_getElem (by simp; omega), List.take_set_of_le (Nat.le_refl _)]
    simp
  · unfold atV
    rw [List.getElem?_set_ne (by omega)]
    exact h.rest i (by omega) h2

set_option maxRecDepth 100000 in
set_option maxHeartbeats 4000000 in
theorem compact_calls {B : Nat} {w0 w : World} (hB : w0.heap.size = B) (hbel : Below B w0 w) {v : Value} {L : List RV} (hown : w.ownsRow B 33 1 v L.length (L.map encV)) (hok : ∀ x ∈ L, RVok w0 x) (hL : L.length ≤ 1000000) :
    Calls Try.prog 45 #[v, .func (.func 46) #[] #[]] w (CompRet B w L) := by
  have hBw : B ≤ w.heap.size := by have := hbel.size; omega
  by_cases h2 : L.length < 2
  · have hc : compL L = L := by
      match L, h2 with
      | [], _ => rfl
      | [x], _ => rfl
    have t1 : decide (L.length < 2) = true := decide_eq_true h2
    have FIN : Hid (CompRet B w L (.returned v) w) := Lib.hid ⟨v, rfl, by rw [hc]; exact hown, Below.refl _ _⟩
    obtain ⟨a, cap, rfl⟩ : ∃ a cap, v = .slice a L.length cap := by
      rcases hown.2 with ⟨rfl, h9⟩ | ⟨r, cap, cur, rfl, _⟩
      · rw [h9]; exact ⟨_, _, rfl⟩
      · exact ⟨_, _, rfl⟩
    clear hown hc hbel
    go_enter Try.func45, Try.ntmps45
    go_wp2_with fail
    go_ret
    exact FIN.out
  · have t1 : decide (L.length < 2) = false := decide_eq_false h2
    obtain ⟨g, cap, hv, hgB, hgl⟩ := hown.form (by omega)
    subst hv
    have hcap : L.length ≤ cap ∧ cap ≤ 2 ^ 63 - 1 := by
      rcases hown.2 with ⟨h0, _⟩ | ⟨g', cap', cur, hv, _, _, hn, hc, _⟩
      · cases h0
      · cases hv; exact ⟨hn, by unfold maxLen at hc; exact hc⟩
    have HO := Lib.hid hown
    have HB0 := Lib.hid hB
    have HBl := Lib.hid hbel
    clear hown hB hbel
    obtain ⟨n, hn⟩ : ∃ n, L.length = n := ⟨_, rfl⟩
    rw [hn] at t1 hcap hL h2 ⊢
    have HN := Lib.hid hn
    clear hn
    go_enter Try.func45, Try.ntmps45
    go_wp2_with fail
    go_loopw [5] (fun s wr => ∃ k q : Nat, s = .int .i64 k ∧ 1 ≤ k ∧ k ≤ n ∧ Hid (compL (L.take k) = L.take k) ∧ Hid (wr = w.drewN q)) (fun s _ => n - (intOf s).toNat)
    case atStart => exact ⟨1, 0, rfl, Nat.le_refl _, by omega, Lib.hid (comp_one (by rw [HN.out]; omega)), Lib.hid rfl⟩
    case round =>
      obtain ⟨k, q, rfl, hk1, hkn, HC, HW⟩ := hrel
      have HOr : Hid (wr.ownsRow B 33 1 (.slice (some ⟨g, 0, none⟩) L.length cap) L.length (L.map encV)) := Lib.hid (by rw [HW.out]; exact HO.out)
      have HBr : Hid (Below B w0 wr) := Lib.hid (by rw [HW.out]; exact below_drewN HBl.out q)
      by_cases hlt : k < n
      · obtain ⟨j, hj⟩ : ∃ j, k - 1 = j := ⟨_, rfl⟩
        have d1 := HOr.out.cellAt k (by rw [HN.out]; omega)
        have d2 := HOr.out.cellAt j (by rw [HN.out]; omega)
        rw [map_at (by rw [HN.out]; omega)] at d1 d2
        have o1 := hok _ (atV_mem (L := L) (i := k) (by rw [HN.out]; omega))
        have o2 := hok _ (atV_mem (L := L) (i := j) (by rw [HN.out]; omega))
        obtain ⟨b, hb⟩ : ∃ b, decide ((atV L k).2.1 = (atV L j).2.1) = b := ⟨_, rfl⟩
        have HBb := Lib.hid hb
        have cc : ∀ m, Calls Try.prog 46 #[encV (atV L k), encV (atV L j)] (wr.drewN m) (Quiet (.bool b) (wr.drewN m)) := fun m => by
          have hbm : Below w0.heap.size w0 (wr.drewN m) := by rw [HB0.out]; exact below_drewN HBr.out m
          rw [← hb]
          exact make2_calls _ _ _ _ _ _ _ (o1.1.below hbm) (o2.1.below hbm) o1.2 o2.2
        have HJ := Lib.hid hj
        have q1 : ((k : Int) - 1).toNat = j := by omega
        have q2 : (0 : Int) ≤ (k : Int) - 1 := by omega
        have q3 : (k : Int) - 1 < (n : Int) := by omega
        have q4 : (k : Int) < (n : Int) := by omega
        have q5 : (0 : Int) ≤ (k : Int) := by omega
        clear hb hj o1 o2
        generalize encV (atV L k) = vk at *
        generalize encV (atV L j) = vj at *
        cases b
        · go_wp2_with fail
          go_quiet ((exact Calls.quiet_of (cc _)))
          go_wp2_with fail
          go_roundw
          case rel => exact ⟨k + 1, _, by go_num, by omega, by omega, Lib.hid (by
            have he : ¬ (atV L k).2.1 = (atV L (k - 1)).2.1 := by rw [HJ.out]; exact of_decide_eq_false HBb.out
            rw [comp_new hk1 (by rw [HN.out]; exact hlt) he, HC.out, List.take_succ_eq_append_getElem (by rw [HN.out]; exact hlt), ← atV_eq]), Lib.hid (drewM HW.out)⟩
          case measure => simp [intOf]; omega
        · go_wp2_with fail
          go_quiet ((exact Calls.quiet_of (cc _)))
          go_wp2_with fail
          obtain ⟨m, hm⟩ : ∃ m, n - k = m := ⟨_, rfl⟩
          obtain ⟨cm, hcm⟩ : ∃ m, cap - k = m := ⟨_, rfl⟩
          rw [hm, hcm]
          have HM : Hid (k + m = n) := Lib.hid (by omega)
          have hm1 : 1 ≤ m := by omega
          have hkm : k + m ≤ n := by omega
          have M0 : Hid (CompMid L L k (k + 1)) := Lib.hid ⟨rfl, by rw [comp_same hk1 (by rw [HN.out]; exact hlt) (by rw [HJ.out]; exact of_decide_eq_true HBb.out)]; exact HC.out.symm, fun _ _ _ => rfl, by omega, hk1, by rw [HN.out]; omega⟩
          have O0 : Hid ((wr.drewN nq).ownsRow B 33 1 (.slice (some ⟨g, 0, none⟩) n cap) n (L.map encV)) := Lib.hid (by have := HOr.out; rw [HN.out] at this; exact this)
          have B0 : Hid (Below B w (wr.drewN nq)) := Lib.hid (by rw [HW.out]; exact below_drewN (below_drewN (Below.refl _ _) q) _)
          have B00 : Hid (Below B w0 (wr.drewN nq)) := Lib.hid (below_drewN HBr.out _)
          clear hm hcm d1 d2 cc
          generalize wr.drewN nq = wq at *
          go_loopw [5, 7] (fun s5 s7 wv => ∃ (kk k2 : Nat) (C : List RV), s5 = .int .i64 kk ∧ s7 = .int .i64 k2 ∧ 1 ≤ k2 ∧ k2 ≤ m ∧ kk < k + k2 ∧ Hid (CompMid L C kk (k + k2)) ∧ Hid (wv.ownsRow B 33 1 (.slice (some ⟨g, 0, none⟩) n cap) n (C.map encV)) ∧ Hid (Below B w wv) ∧ Hid (Below B w0 wv)) (fun _ s7 _ => m - (intOf s7).toNat)
          case atStart => exact ⟨k, 1, L, rfl, rfl, Nat.le_refl _, hm1, by omega, M0, O0, B0, B00⟩
          case round =>
            obtain ⟨kk, k2, C, rfl, rfl, hk2, hk2m, hkk, HMd, HOv, HBv, HBv0⟩ := hrel
            have hkk1 : 1 ≤ kk := HMd.out.pos
            have hbs : B ≤ wr.heap.size := by have := HBv.out.size; omega
            by_cases hlt2 : k2 < m
            · obtain ⟨j2, hj2⟩ : ∃ j, k2 - 1 = j := ⟨_, rfl⟩
              have HJ2 := Lib.hid hj2
              have d1 := HOv.out.cellAt (k + k2) (by omega)
              have d2 := HOv.out.cellAt (k + j2) (by omega)
              have d3 := HOv.out.cellAt kk (by omega)
              have z3 := HOv.out.frozenAt kk
              have hlC : C.length = n := by rw [HMd.out.len, HN.out]
              rw [map_at (by omega)] at d1 d2 d3
              rw [HMd.out.rest (k + k2) (by omega) (by rw [HN.out]; omega)] at d1
              rw [HMd.out.rest (k + j2) (by omega) (by rw [HN.out]; omega)] at d2
              have o1 := hok _ (atV_mem (L := L) (i := k + k2) (by rw [HN.out]; omega))
              have o2 := hok _ (atV_mem (L := L) (i := k + j2) (by rw [HN.out]; omega))
              obtain ⟨b, hb⟩ : ∃ b, decide ((atV L (k + k2)).2.1 = (atV L (k + j2)).2.1) = b := ⟨_, rfl⟩
              have HB2 := Lib.hid hb
              have cc : ∀ q, Calls Try.prog 46 #[encV (atV L (k + k2)), encV (atV L (k + j2))] (wr.drewN q) (Quiet (.bool b) (wr.drewN q)) := fun q => by
                have hbm : Below w0.heap.size w0 (wr.drewN q) := by rw [HB0.out]; exact below_drewN HBv0.out q
                rw [← hb]
                exact make2_calls _ _ _ _ _ _ _ (o1.1.below hbm) (o2.1.below hbm) o1.2 o2.2
              have ST := Lib.hid (HOv.out.stored kk (encV (atV L (k + k2))))
              have oneC : (encV (atV L (k + k2))).oneCell' = true := rfl
              have i1 : ((k2 : Int) - 1).toNat = j2 := by omega
              have i2 : (0 : Int) ≤ (k2 : Int) - 1 := by omega
              have i3 : (k2 : Int) - 1 < (m : Int) := by omega
              have i4 : (k2 : Int) < (m : Int) := by omega
              have i5 : (0 : Int) ≤ (k2 : Int) := by omega
              clear hb hj2 o1 o2 hlC
              obtain ⟨x1, hx1⟩ : ∃ x, atV L (k + k2) = x := ⟨_, rfl⟩
              cases b
              · have N3 : Hid (CompMid L (C.set kk x1) (kk + 1) (k + (k2 + 1))) := Lib.hid (by
                  have := compMid_new HMd.out (by rw [HN.out]; omega) (by rw [show k + k2 - 1 = k + j2 by have := HJ2.out; omega]; exact of_decide_eq_false HB2.out)
                  rw [Nat.add_assoc, hx1] at this; exact this)
                rw [hx1] at d1 ST cc
                obtain ⟨a1, zs1, c1⟩ := x1
                have SX : Hid (encV (a1, zs1, c1) = .slice a1 zs1.length c1) := Lib.hid rfl
                rw [SX.out] at d1 ST cc
                generalize encV (atV L (k + j2)) = vj at *
                generalize encV (atV C kk) = vc at *
                have hne : ¬ kk = k + k2 := by omega
                clear hx1 oneC
                go_wp2_with fail
                go_quiet ((exact Calls.quiet_of (cc _)))
                go_wp2_with fail
                go_roundw
                case rel => exact ⟨kk + 1, k2 + 1, C.set kk (a1, zs1, c1), by go_num, by go_num, by omega, by omega, by omega, N3, Lib.hid (by rw [← set_enc, SX.out]; exact ST.out.1), Lib.hid (below_drewN (HBv.out.setCell (p := ⟨g, kk, none⟩) hgB _) _), Lib.hid (below_drewN (HBv0.out.setCell (p := ⟨g, kk, none⟩) hgB _) _)⟩
                case measure => simp [intOf]; omega
              · have N2 : Hid (CompMid L C kk (k + (k2 + 1))) := Lib.hid (by
                  have := compMid_same HMd.out (by rw [HN.out]; omega) (by rw [show k + k2 - 1 = k + j2 by have := HJ2.out; omega]; exact of_decide_eq_true HB2.out)
                  rw [Nat.add_assoc] at this; exact this)
                clear hx1 oneC
                generalize encV (atV L (k + k2)) = vk at *
                generalize encV (atV L (k + j2)) = vj at *
                go_wp2_with fail
                go_quiet ((exact Calls.quiet_of (cc _)))
                go_wp2_with fail
                go_roundw
                case rel => exact ⟨kk, k2 + 1, C, rfl, by go_num, by omega, by omega, by omega, N2, Lib.hid HOv.out, Lib.hid (below_drewN HBv.out _), Lib.hid (below_drewN HBv0.out _)⟩
                case measure => simp [intOf]; omega
            · obtain rfl : k2 = m := by omega
              have hfr := HMd.out.front
              rw [HM.out, show L.take n = L by rw [← HN.out]; exact List.take_length] at hfr
              have FR := Lib.hid hfr
              have hlC : C.length = n := by rw [HMd.out.len, HN.out]
              have hkn2 : kk < n := by have := HM.out; omega
              obtain ⟨r, hr⟩ : ∃ r, n - kk = r := ⟨_, rfl⟩
              obtain ⟨cr, hcr⟩ : ∃ r, cap - kk = r := ⟨_, rfl⟩
              have hclr := fun ty => Go.Lib.run_clear_slice (P := Try.prog) wr 28 33 ty (.slice none 0 0) Try.underlying28 zero23 rfl rfl g kk r cr (by omega) (fun j hj => by rw [HOv.out.cellAt (kk + j) (by omega), map_at (by omega)]; rfl) (fun j hj => HOv.out.frozenAt (kk + j))
              obtain ⟨ys, hys, hyt, hyg⟩ := owns_setCells (List.replicate r (.slice none 0 0)) kk wr _ HOv.out
              have FIN : Hid (CompRet B w L (.returned (.slice (some ⟨g, 0, none⟩) kk cap)) (wr.setCells g kk (List.replicate r (.slice none 0 0)))) := by
                refine Lib.hid ⟨_, rfl, ?_, HBv.out.grown hyg hbs (fun k hk => by cases hk; exact hgB)⟩
                have h1 := owns_front hys (Nat.le_of_lt hkn2)
                rw [hyt, ← List.map_take, FR.out] at h1
                have h2 : (compL L).length = kk := by rw [← FR.out]; simp; omega
                rw [h2]; exact h1
              clear hys hyt hyg hfr
              have e1 : kk ≤ n := by omega
              have e2 : ¬ cap = kk := by omega
              go_wp2_with fail
              go_ret
              exact FIN.out
      · obtain rfl : k = n := by omega
        have hc : compL L = L := by
          have := HC.out
          rw [show L.take k = L by rw [← HN.out]; exact List.take_length] at this
          exact this
        have FIN : Hid (CompRet B w L (.returned (.slice (some ⟨g, 0, none⟩) k cap)) wr) := by
          refine Lib.hid ⟨_, rfl, ?_, by rw [HW.out]; exact below_drewN (Below.refl _ _) q⟩
          rw [hc, HN.out]
          have := HOr.out
          rw [HN.out] at this
          exact this
        clear hc
        go_wp2_with fail
        go_ret
        exact FIN.out
end Go.Proofs.Ytepkmhcchmladaa
