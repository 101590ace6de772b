/- Contract of the statements' own By. Written by mkgr7.py. -/
import Derived.Test.YtcecndjkfdaaaaaDoorGr5
import Derived.Test.YtcecndjkfdaaaaaDoorGk2
import Derived.Test.YtcecndjkfdaaaaaDoorSg14
namespace Go.Proofs.YtcecndjkfdaaaaaDoor
open Go.RowKit
set_option linter.unusedVariables false
set_option linter.unusedSimpArgs false

/-- The numbers that are aggregated, by row. -/
def elL (rs : List (List Int)) (wd : Nat) (col : Int) : List Int := if posB wd col = true then colOf rs col.toNat else List.replicate rs.length 0
theorem elL_in {rs : List (List Int)} {wd c j : Nat} (hc : c < wd) (hj : j < rs.length) : at0 (elL rs wd c) j = (rowAt rs j)[c]?.getD 0 := by
  unfold elL
  rw [if_pos (show posB wd (c : Int) = true from decide_eq_true ⟨by omega, by omega⟩)]
  exact colOf_at hj
theorem elL_out {rs : List (List Int)} {wd j : Nat} {col : Int} (hc : posB wd col = false) : at0 (elL rs wd col) j = 0 := by
  unfold elL
  rw [if_neg (by rw [hc]; exact Bool.false_ne_true)]
  unfold at0
  by_cases h : j < rs.length
  · simp [h]
  · simp [h]
theorem listTo_hit {kys : List (List Int)} {el : List Int} {κ : List Int} {m : Nat} (h : kyAt kys m = κ) : listTo kys el κ (m + 1) = listTo kys el κ m ++ [at0 el m] := by
  unfold listTo; rw [rowsTo_hit h, List.map_append]; rfl
theorem listTo_no {kys : List (List Int)} {el : List Int} {κ : List Int} {m : Nat} (h : ¬ kyAt kys m = κ) : listTo kys el κ (m + 1) = listTo kys el κ m := by
  unfold listTo; rw [rowsTo_step_no h]
theorem listTo_all (kys : List (List Int)) (el κ : List Int) : listTo kys el κ kys.length = listOf kys el κ := rfl
theorem listTo_len (kys : List (List Int)) (el κ : List Int) (m : Nat) : (listTo kys el κ m).length ≤ m := by unfold listTo; rw [List.length_map]; exact rowsTo_len _ _ _
/-- No row before i, of the first m, has the key of row i. -/
def FB (kys : List (List Int)) (i m : Nat) (b : Bool) : Prop := b = true ↔ ∀ j, j < m → kyAt kys j = kyAt kys i → i ≤ j
theorem FB.no {kys : List (List Int)} {i m : Nat} {b : Bool} (h : FB kys i m b) (hn : ¬ kyAt kys m = kyAt kys i) : FB kys i (m + 1) b := by
  unfold FB at *
  rw [h]
  constructor
  · intro H j hj e
    by_cases ej : j = m
    · subst ej; exact absurd e hn
    · exact H j (by omega) e
  · intro H j hj e; exact H j (by omega) e
theorem FB.hit {kys : List (List Int)} {i m : Nat} {b : Bool} (h : FB kys i m b) (hn : kyAt kys m = kyAt kys i) : FB kys i (m + 1) (b && decide (i ≤ m)) := by
  unfold FB at *
  rw [Bool.and_eq_true, h, decide_eq_true_eq]
  constructor
  · rintro ⟨H, hm⟩ j hj e
    by_cases ej : j = m
    · subst ej; exact hm
    · exact H j (by omega) e
  · intro H; exact ⟨fun j hj e => H j (by omega) e, H m (by omega) hn⟩
theorem FB.all {kys : List (List Int)} {i : Nat} {b : Bool} (h : FB kys i kys.length b) (hi : i < kys.length) : b = true ↔ ¬ kyAt kys i ∈ kys.take i := by
  unfold FB at h
  rw [h]
  constructor
  · intro H hm
    obtain ⟨j, hj, e⟩ := List.getElem_of_mem hm
    have hj2 : j < i := by have := hj; simp at this; omega
    have := H j (by omega) (by rw [← e]; unfold kyAt; rw [List.getElem_take, List.getElem?_eq_getElem (by omega)]; rfl)
    omega
  · intro H j hj e
    rcases Nat.lt_or_ge j i with hlt | hge
    · refine absurd ?_ H
      rw [← e]
      have : kyAt kys j = (kys.take i)[j]'(by simp; omega) := by unfold kyAt; rw [List.getElem_take, List.getElem?_eq_getElem (by omega)]; rfl
      rw [this]; exact List.getElem_mem _
    · exact hge
/-- What the statements' own By gives. -/
def LByRet (w : World) (wd : Nat) (o : Option (List (List Int))) (e : Ending) (w' : World) : Prop :=
  (o = none ∧ e = .returned (.tuple #[.slice none 0 0, .bool false]) ∧ Below w.heap.size w w') ∨
  ∃ R g c L, o = some R ∧ e = .returned (.tuple #[.slice (some ⟨g, 0, none⟩) L.length c, .bool true]) ∧ L.map (·.2.1) = relOf wd R ∧ RRow w' (some ⟨g, 0, none⟩) L ∧ Below w.heap.size w w'
set_option maxRecDepth 100000 in
set_option maxHeartbeats 4000000 in
theorem lawByIn {w : World} {p : Option Addr} {wd : Nat} {rs : List (List Int)} (h : Seg w p wd rs) (ka : Option Addr) (kc : Nat) (keys : List Int) (hk : Row w ka keys) (hkl : keys.length ≤ 900) (hwd : wd ≤ 900) (hrs : rs.length ≤ 1000) (h1 : 0 < rs.length) (k : Int) (c : Nat) (hc : c < wd) (hez : InR (elL rs wd (c : Int))) :
    Calls Tryd.prog 15 #[.pointer p, .slice ka keys.length kc, .int .i64 k, .int .i64 (c : Int)] w (LByRet w ((validP wd keys).length + 1) (madeTo (rs.map fun r => keyL r keys) (elL rs wd (c : Int)) k rs.length)) := by
  obtain ⟨i0, hi0, hz0, hz1, hz2⟩ := info_parts info22
  obtain ⟨i2, hi2, hx0, hx1, hx2⟩ := info_parts info2
  have I := Lib.hid hi0
  have Z0 := Lib.hid hz0
  have Z1 := Lib.hid hz1
  have Z2 := Lib.hid hz2
  have I' := Lib.hid hi2
  have Z0' := Lib.hid hx0
  have Z1' := Lib.hid hx1
  have Z2' := Lib.hid hx2
  clear hi0 hz0 hz1 hz2 hi2 hx0 hx1 hx2
  have HS := Lib.hid h
  have HK := Lib.hid hk
  have HEZ := Lib.hid hez
  have WR : Hid (∀ r ∈ rs, r.length = wd) := Lib.hid h.2.1
  have u0 : decide ((0 : Int) ≤ (c : Int)) = true := decide_eq_true (by omega)
  have u1 : decide ((c : Int) < (wd : Int)) = true := decide_eq_true (by omega)
  have EL : Hid (∀ j, j < rs.length → at0 (elL rs wd c) j = (rowAt rs j)[c]?.getD 0) := Lib.hid (fun j hj => elL_in hc hj)
  clear h hk hez
  have VL : (validP wd keys).length ≤ 900 := Nat.le_trans (validP_len wd keys) hkl
  have KL : Hid ((rs.map fun r => keyL r keys).length = rs.length) := Lib.hid (by simp)
  have KY : Hid (∀ i, i < rs.length → kyAt (rs.map fun r => keyL r keys) i = keyL (rowAt rs i) keys) := Lib.hid (fun i hi => kyAt_map hi)
  have KV : Hid (∀ i, i < rs.length → (kyAt (rs.map fun r => keyL r keys) i).length = (validP wd keys).length) := Lib.hid (fun i hi => by
    rw [kyAt_map hi, keyL_valid, WR.out _ (rowAt_mem hi)])
  generalize hky : (rs.map fun r => keyL r keys) = kys at *
  have HKY := Lib.hid hky
  clear hky
  have HKV : Hid ((validP wd keys).length = (validP wd keys).length) := Lib.hid rfl
  obtain ⟨kw, hkw⟩ : ∃ kw, (validP wd keys).length = kw := ⟨_, rfl⟩
  rw [hkw] at KV VL ⊢
  clear hkw HKV
  obtain ⟨B, hB⟩ : ∃ B, w.heap.size = B := ⟨_, rfl⟩
  have HB := Lib.hid hB
  have U0 := Lib.hid (UL.nil B w (Nat.le_of_eq hB.symm))
  have B0 : Hid (Below B w (w.alloc (.cells #[] 22))) := Lib.hid ((Below.refl _ _).alloc (Nat.le_of_eq hB.symm) _)
  clear hB
  go_enter Tryd.func15, Tryd.ntmps15
  go_wp2_with fail
  generalize World.alloc w _ = w0 at *
  generalize Value.slice (some ⟨w.heap.size, 0, none⟩) 0 0 = v0 at *
  go_loopw [12, 10, 11] (fun s v t wr => ∃ (i : Nat) (L : List RV) (wt : Int), i ≤ rs.length ∧ s = .int .i64 i ∧ t = .int .i64 wt ∧ Hid (wt = if i = 0 then 1 else (kw : Int) + 1) ∧ Hid (UL B wr v L) ∧ Hid (madeTo kys (elL rs wd (c : Int)) k i = some (L.map (·.2.1))) ∧ Hid (Below B w wr)) (fun s _ _ _ => rs.length - (intOf s).toNat)
  case atStart => exact ⟨0, [], 1, Nat.zero_le _, rfl, rfl, Lib.hid rfl, U0, Lib.hid rfl, B0⟩
  case round =>
    obtain ⟨i, L, wt, hi, rfl, rfl, HWT, HU, HM, HBe⟩ := hrel
    clear U0 B0
    obtain ⟨wo, rfl⟩ : ∃ x, x = wr := ⟨wr, rfl⟩
    have hBo : B ≤ wo.heap.size := by have := HBe.out.size; rw [HB.out] at this; exact this
    have cl := segLen_calls (HS.out.belowB HB.out HBe.out)
    by_cases hlt : i < rs.length
    · have cr := segRow_calls (HS.out.belowB HB.out HBe.out) i hlt (by omega) (by omega)
      have RL : Hid ((rowAt rs i).length = wd) := Lib.hid (WR.out _ (rowAt_mem hlt))
      have KI : Hid (keyL (rowAt rs i) keys = kyAt kys i) := Lib.hid (KY.out i hlt).symm
      have HVM : Hid (∀ b, u10.ownBlock = some b → b < wo.heap.size) := Lib.hid (fun b hb => (HU.out.own.lt b hb).2)
      have HRM : Hid (∀ x ∈ L, ∀ p, x.1 = some p → p.block < wo.heap.size) := Lib.hid (fun x hx p hp => ((HU.out.rows x hx).2 p hp).1)
      go_wp2_with fail
      refine cl.mono ?_
      rintro e w' ⟨rfl, rfl⟩
      clear cl
      go_wp2_with fail
      refine cr.mono ?_
      rintro e w4 ⟨ra, rc, rfl, hr4, _, hb4⟩
      have B4 : Hid (Below B w w4) := Lib.hid (HBe.out.trans (hb4.mono hBo))
      have ck := lawKeyO_calls ra ka rc kc (rowAt rs i) keys w4 hr4 (HK.out.belowB HB.out B4.out) (by rw [RL.out]; omega) (by omega)
      rw [KI.out] at ck
      have HB4 := Lib.hid hb4
      clear hr4 hb4 cr
      go_wp2_with fail
      refine ck.mono ?_
      rintro e wc ⟨vk, rfl, hk5, hb5⟩
      have hB4 : B ≤ w4.heap.size := by have := B4.out.size; rw [HB.out] at this; exact this
      have BC : Hid (Below B w wc) := Lib.hid (B4.out.trans (hb5.mono hB4))
      have UC := Lib.hid ((HU.out.below HB4.out).below hb5)
      have hDM : wo.heap.size ≤ w4.heap.size := HB4.out.size
      have hD5 : w4.heap.size ≤ wc.heap.size := hb5.size
      obtain ⟨D, hD⟩ : ∃ D, w4.heap.size = D := ⟨_, rfl⟩
      rw [hD] at hk5 hDM hD5
      have HKN : Hid (∀ b, vk.ownBlock = some b → wo.heap.size ≤ b) := Lib.hid (fun b hb => by have := (hk5.lt b hb).1; omega)
      have HKO := Lib.hid hk5
      obtain ⟨ya, yc, hye, hyr⟩ := row_of_owns hk5
      rw [hye] at HKO HKN ⊢
      have HYR := Lib.hid hyr
      have KVi := KV.out i hlt
      obtain ⟨κ, hκ⟩ : ∃ κ, kyAt kys i = κ := ⟨_, rfl⟩
      have HKA := Lib.hid hκ
      rw [hκ] at HKO HKN HYR KVi ⊢
      have HKVi := Lib.hid KVi
      have hκl : κ.length ≤ 900 := by omega
      clear hk5 hb5 ck hye hyr hD hκ KVi
      obtain ⟨C, hC⟩ : ∃ C, wc.heap.size = C := ⟨_, rfl⟩
      have HC := Lib.hid hC
      have hBC : B ≤ C := by omega
      have LI0 : Hid ((wc.alloc (.cells #[] 2)).ownsRow C 2 1 (.slice (some ⟨wc.heap.size, 0, none⟩) 0 0) 0 []) := Lib.hid (World.ownsRow_lit (base := C) (e := 2) (size := 1) wc #[] 0 (Nat.le_of_eq hC.symm) (by decide) rfl)
      have BI0 : Hid (Below C wc (wc.alloc (.cells #[] 2))) := Lib.hid ((Below.refl _ _).alloc (Nat.le_of_eq hC.symm) _)
      clear hC
      go_wp2_with fail
      generalize World.alloc wc _ = wi at *
      generalize Value.slice (some ⟨wc.heap.size, 0, none⟩) 0 0 = vi at *
      go_loopw [16, 14, 15] (fun s v t wv => ∃ (m : Nat) (fb : Bool), m ≤ rs.length ∧ s = .int .i64 m ∧ t = .bool fb ∧ Hid (wv.ownsRow C 2 1 v (listTo kys (elL rs wd (c : Int)) κ m).length ((listTo kys (elL rs wd (c : Int)) κ m).map (Value.int .i64))) ∧ Hid (FB kys i m fb) ∧ Hid (Below C wc wv)) (fun s _ _ _ => rs.length - (intOf s).toNat)
      case atStart => exact ⟨0, true, Nat.zero_le _, rfl, rfl, LI0, Lib.hid ⟨fun _ j hj => by omega, fun _ => rfl⟩, BI0⟩
      case round =>
        obtain ⟨m, fb, hm, rfl, rfl, HL, HF, HBw⟩ := hrel
        have hCr : C ≤ wr.heap.size := by have := HBw.out.size; rw [HC.out] at this; exact this
        have BR : Hid (Below B w wr) := Lib.hid (BC.out.trans (HBw.out.mono hBC))
        have cl := segLen_calls (HS.out.belowB HB.out BR.out)
        by_cases hml : m < rs.length
        · have cr := segRow_calls (HS.out.belowB HB.out BR.out) m hml (by omega) (by omega)
          have RLm : Hid ((rowAt rs m).length = wd) := Lib.hid (WR.out _ (rowAt_mem hml))
          have KM : Hid (keyL (rowAt rs m) keys = kyAt kys m) := Lib.hid (KY.out m hml).symm
          have KLm : Hid ((kyAt kys m).length ≤ 900) := Lib.hid (by rw [KV.out m hml]; exact VL)
          have LL : (listTo kys (elL rs wd (c : Int)) κ m).length ≤ 1000 := Nat.le_trans (listTo_len _ _ _ _) (by omega)
          go_wp2_with fail
          refine cl.mono ?_
          rintro e w' ⟨rfl, rfl⟩
          clear cl
          go_wp2_with fail
          refine cr.mono ?_
          rintro e w7 ⟨qa, qc, rfl, hr7, _, hb7⟩
          have BW7 : Hid (Below C wc w7) := Lib.hid (HBw.out.trans (hb7.mono hCr))
          have B7 : Hid (Below B w w7) := Lib.hid (BC.out.trans (BW7.out.mono hBC))
          have L7 := Lib.hid (owns_keeps HL.out (Keeps.of_below (N := fun _ => False) hb7) (fun _ _ h => h))
          have c7 : C ≤ w7.heap.size := by have := hb7.size; omega
          have ck := lawKeyF_calls qa ka qc kc (rowAt rs m) keys w7 hr7 (HK.out.belowB HB.out B7.out) (by rw [RLm.out]; omega) (by omega)
          rw [KM.out] at ck
          clear hr7 hb7 cr HL HBw BR hCr
          go_wp2_with fail
          refine ck.mono ?_
          rintro e w8 ⟨za, zc, rfl, hr8, _, _, hb8⟩
          have BW8 : Hid (Below C wc w8) := Lib.hid (BW7.out.trans (hb8.mono c7))
          have L8 := Lib.hid (owns_keeps L7.out (Keeps.of_below (N := fun _ => False) hb8) (fun _ _ h => h))
          have c8 : C ≤ w8.heap.size := by have := hb8.size; omega
          have cc := lawCompare_calls za ya zc yc (kyAt kys m) κ w8 hr8 (HYR.out.belowB HC.out BW8.out) (by have := KLm.out; omega) (by omega)
          clear hr8 hb8 ck L7 BW7 B7 c7
          by_cases hE : kyAt kys m = κ
          · have LT := Lib.hid (listTo_hit (el := elL rs wd (c : Int)) hE)
            have F9 := Lib.hid (HF.out.hit (hE.trans HKA.out.symm))
            have hcv : cmpR (kyAt kys m) κ = 0 := by rw [hE, cmpR_self]
            rw [hcv] at cc
            clear hE hcv
            have t1 : decide ((m : Int) ≥ (i : Int)) = decide (i ≤ m) := by simp
            cases hfb : fb with
            | false =>
              rw [hfb] at F9
              clear hfb
              go_wp2_with fail
              refine cc.mono ?_
              rintro e wv ⟨rfl, q, hq⟩
              have HBV : Hid (Below C wc wv) := Lib.hid (by rw [hq]; exact below_drewN BW8.out q)
              have HLV := Lib.hid (show wv.ownsRow C 2 1 u14 _ _ by rw [hq]; exact owns_keeps L8.out (Keeps.of_below (N := fun _ => False) (below_drewN (Below.refl _ _) q)) (fun _ _ h => h))
              have hCv : C ≤ wv.heap.size := by rw [hq]; simpa using c8
              have BX : Hid (Below B w wv) := Lib.hid (BC.out.trans (HBV.out.mono hBC))
              clear hq cc L8 BW8 c8
              have cw := segWidth_calls (HS.out.belowB HB.out BX.out)
              have cr2 := segRow_calls (HS.out.belowB HB.out BX.out) m hml (by omega) (by omega)
              go_wp2_with fail
              refine cw.mono ?_
              rintro e w' ⟨rfl, rfl⟩
              clear cw
              go_wp2_with fail
              refine cr2.mono ?_
              rintro e wv2 ⟨ra, rc, rfl, hr2, _, hb2⟩
              have hll : c < (rowAt rs m).length := by rw [RLm.out]; exact hc
              obtain ⟨b2, o2, rfl, _, hc2⟩ := hr2.at (k := c) hll
              rw [← EL.out m hml] at hc2
              have HBV2 : Hid (Below C wc wv2) := Lib.hid (HBV.out.trans (hb2.mono hCv))
              have HLV2 := Lib.hid (owns_keeps HLV.out (Keeps.of_below (N := fun _ => False) hb2) (fun _ _ h => h))
              have hCv2 : C ≤ wv2.heap.size := by have := hb2.size; omega
              have q1 : (c : Int) < ((rowAt rs m).length : Int) := by omega
              have q2 : (0 : Int) ≤ (c : Int) := by omega
              generalize at0 (elL rs wd c) m = y at *
              generalize listTo kys (elL rs wd c) κ m = ys at *
              clear hr2 hb2 cr2 HLV HBV hCv BX
              clear hll
              obtain ⟨wv, rfl⟩ : ∃ x, x = wv2 := ⟨wv2, rfl⟩
              have HLV := HLV2
              have HBV := HBV2
              have hCv := hCv2
              clear HLV2 HBV2 hCv2
              go_wp2_with (first | (at_builtin; refine wpList_append_own _ rfl _ _ 22 rfl C 2 i2 (.int .i64 0) 1 8 Tryd.underlying22 I'.out Z0'.out Z1'.out Z2'.out rfl (by decide) _ _ _ rfl (HLV.out.alloc _) ⟨wv.heap.size, 0, none⟩ 1 1 [.int .i64 y] rfl rfl ?c1 ?c2 ?c3 ?c4 ?c5 ?_))
              case c1 => exact cell_one_new wv _ _
              case c2 => intro u hu; simp at hu; subst hu; rfl
              case c3 => unfold maxLen; omega
              case c4 => omega
              case c5 => simp; omega
              intro v' w9 hown' hgrow _
              have R9 := app_step hCv HBV.out HLV.out hown' hgrow
              have L9 := Lib.hid R9.1
              have B9 := Lib.hid R9.2
              rw [← LT.out] at L9
              clear hown' hgrow R9
              go_wp2_with fail
              go_roundw
              case rel => exact ⟨m + 1, _, by omega, by go_num, rfl, L9, F9, B9⟩
              case measure => simp [intOf]; omega
            | true =>
              rw [hfb] at F9
              clear hfb
              rw [Bool.true_and] at F9
              go_wp2_with fail
              refine cc.mono ?_
              rintro e wv ⟨rfl, q, hq⟩
              have HBV : Hid (Below C wc wv) := Lib.hid (by rw [hq]; exact below_drewN BW8.out q)
              have HLV := Lib.hid (show wv.ownsRow C 2 1 u14 _ _ by rw [hq]; exact owns_keeps L8.out (Keeps.of_below (N := fun _ => False) (below_drewN (Below.refl _ _) q)) (fun _ _ h => h))
              have hCv : C ≤ wv.heap.size := by rw [hq]; simpa using c8
              have BX : Hid (Below B w wv) := Lib.hid (BC.out.trans (HBV.out.mono hBC))
              clear hq cc L8 BW8 c8
              have cw := segWidth_calls (HS.out.belowB HB.out BX.out)
              have cr2 := segRow_calls (HS.out.belowB HB.out BX.out) m hml (by omega) (by omega)
              go_wp2_with fail
              refine cw.mono ?_
              rintro e w' ⟨rfl, rfl⟩
              clear cw
              go_wp2_with fail
              refine cr2.mono ?_
              rintro e wv2 ⟨ra, rc, rfl, hr2, _, hb2⟩
              have hll : c < (rowAt rs m).length := by rw [RLm.out]; exact hc
              obtain ⟨b2, o2, rfl, _, hc2⟩ := hr2.at (k := c) hll
              rw [← EL.out m hml] at hc2
              have HBV2 : Hid (Below C wc wv2) := Lib.hid (HBV.out.trans (hb2.mono hCv))
              have HLV2 := Lib.hid (owns_keeps HLV.out (Keeps.of_below (N := fun _ => False) hb2) (fun _ _ h => h))
              have hCv2 : C ≤ wv2.heap.size := by have := hb2.size; omega
              have q1 : (c : Int) < ((rowAt rs m).length : Int) := by omega
              have q2 : (0 : Int) ≤ (c : Int) := by omega
              generalize at0 (elL rs wd c) m = y at *
              generalize listTo kys (elL rs wd c) κ m = ys at *
              clear hr2 hb2 cr2 HLV HBV hCv BX
              clear hll
              obtain ⟨wv, rfl⟩ : ∃ x, x = wv2 := ⟨wv2, rfl⟩
              have HLV := HLV2
              have HBV := HBV2
              have hCv := hCv2
              clear HLV2 HBV2 hCv2
              go_wp2_with (first | (at_builtin; refine wpList_append_own _ rfl _ _ 22 rfl C 2 i2 (.int .i64 0) 1 8 Tryd.underlying22 I'.out Z0'.out Z1'.out Z2'.out rfl (by decide) _ _ _ rfl (HLV.out.alloc _) ⟨wv.heap.size, 0, none⟩ 1 1 [.int .i64 y] rfl rfl ?c1 ?c2 ?c3 ?c4 ?c5 ?_))
              case c1 => exact cell_one_new wv _ _
              case c2 => intro u hu; simp at hu; subst hu; rfl
              case c3 => unfold maxLen; omega
              case c4 => omega
              case c5 => simp; omega
              intro v' w9 hown' hgrow _
              have R9 := app_step hCv HBV.out HLV.out hown' hgrow
              have L9 := Lib.hid R9.1
              have B9 := Lib.hid R9.2
              rw [← LT.out] at L9
              clear hown' hgrow R9
              go_wp2_with fail
              go_roundw
              case rel => exact ⟨m + 1, _, by omega, by go_num, rfl, L9, F9, B9⟩
              case measure => simp [intOf]; omega
          · have LT := Lib.hid (listTo_no (el := elL rs wd (c : Int)) hE)
            have F9 := Lib.hid (HF.out.no (fun e => hE (e.trans HKA.out)))
            have t1 : (cmpR (kyAt kys m) κ != 0) = true := by
              rw [bne_iff_ne]; exact fun e => hE (cmpR_eq e)
            generalize cmpR (kyAt kys m) κ = cv at *
            clear hE
            go_wp2_with fail
            refine cc.mono ?_
            rintro e wv ⟨rfl, q, hq⟩
            have HBV : Hid (Below C wc wv) := Lib.hid (by rw [hq]; exact below_drewN BW8.out q)
            have HLV := Lib.hid (show wv.ownsRow C 2 1 u14 _ _ by rw [hq]; exact owns_keeps L8.out (Keeps.of_below (N := fun _ => False) (below_drewN (Below.refl _ _) q)) (fun _ _ h => h))
            rw [← LT.out] at HLV
            clear hq cc L8 BW8 c8
            go_wp2_with fail
            go_roundw
            case rel => exact ⟨m + 1, fb, by omega, by go_num, rfl, HLV, F9, HBV⟩
            case measure => simp [intOf]; omega
        · obtain rfl : m = rs.length := by omega
          have UR := Lib.hid (UC.out.below (by rw [HC.out]; exact HBw.out))
          have HFA := Lib.hid (FB.all (by rw [KL.out]; exact HF.out) (by rw [KL.out]; exact hlt))
          have NW : Hid ((κ.length : Int) + 1 = if i + 1 = 0 then 1 else (kw : Int) + 1) := Lib.hid (by rw [if_neg (by omega), HKVi.out])
          cases hfb : fb with
          | false =>
            have HIN : Hid (kyAt kys i ∈ kys.take i) := Lib.hid (by
              refine Classical.byContradiction fun hn => ?_
              have := HFA.out.2 hn
              rw [hfb] at this; cases this)
            have M9 : Hid (madeTo kys (elL rs wd (c : Int)) k (i + 1) = some (L.map (·.2.1))) := Lib.hid (by rw [made_skip HIN.out]; exact HM.out)
            clear hfb
            go_wp2_with fail
            refine cl.mono ?_
            rintro e w' ⟨rfl, rfl⟩
            clear cl
            go_wp2_with fail
            go_roundw
            case rel => exact ⟨i + 1, L, (κ.length : Int) + 1, by omega, by go_num, rfl, NW, UR, M9, BR⟩
            case measure => simp [intOf]; omega
          | true =>
            have HIN : Hid (¬ kyAt kys i ∈ kys.take i) := Lib.hid (HFA.out.1 hfb)
            clear hfb
            have hfin := HL.out
            rw [← KL.out, listTo_all] at hfin
            obtain ⟨la, lc, hle, hlr⟩ := row_of_owns hfin
            have HLL : Hid ((listOf kys (elL rs wd (c : Int)) κ).length ≤ 1000) := Lib.hid (by rw [← listTo_all]; exact Nat.le_trans (listTo_len _ _ _ _) (by rw [KL.out]; exact hrs))
            have HLZ : Hid (InR (listOf kys (elL rs wd (c : Int)) κ)) := Lib.hid (fun z hz => by
              unfold listOf at hz
              obtain ⟨j, hj, rfl⟩ := List.mem_map.1 hz
              exact at_mem HEZ.out j)
            have cm := made_is k la lc (listOf kys (elL rs wd (c : Int)) κ) wr hlr HLL.out HLZ.out
            have K9 := Lib.hid (owns_keeps HKO.out (Keeps.of_below (N := fun _ => False) (by rw [HC.out]; exact HBw.out)) (fun _ _ h => h))
            rw [hle]
            have hD9 : D ≤ wr.heap.size := by have := HC.out; omega
            clear hfin hlr hle HL HF HLL HLZ
            cases hok : okOf (mkOf k (listOf kys (elL rs wd (c : Int)) κ)) with
            | false =>
              rw [hok] at cm
              have HFN : Hid (madeTo kys (elL rs wd (c : Int)) k rs.length = none) := Lib.hid (made_none (made_stop HIN.out (by rw [HKA.out]; exact (ok_none hok).1)) (by omega))
              clear hok
              go_wp2_with fail
              refine cl.mono ?_
              rintro e w' ⟨rfl, rfl⟩
              clear cl
              go_wp2_with fail
              refine cm.mono ?_
              rintro e w' ⟨rfl, rfl⟩
              clear cm
              go_wp2_with fail
              go_ret2
              exact .inl ⟨HFN.out, rfl, by rw [HB.out]; exact BR.out⟩
            | true =>
              rw [hok] at cm
              have HV := Lib.hid (ok_some hok)
              have M9 := Lib.hid (made_step HIN.out HM.out (by rw [HKA.out]; exact HV.out))
              rw [HKA.out] at M9
              clear hok HV
              generalize vOf (mkOf k (listOf kys (elL rs wd (c : Int)) κ)) = y at *
              go_wp2_with fail
              refine cl.mono ?_
              rintro e w' ⟨rfl, rfl⟩
              clear cl
              go_wp2_with fail
              refine cm.mono ?_
              rintro e w' ⟨rfl, rfl⟩
              clear cm
              go_wp2_with (first | (at_builtin; refine wpList_append_own _ rfl _ _ 22 rfl D 2 i2 (.int .i64 0) 1 8 Tryd.underlying22 I'.out Z0'.out Z1'.out Z2'.out rfl (by decide) _ _ _ rfl (K9.out.alloc _) ⟨wr.heap.size, 0, none⟩ 1 1 [.int .i64 y] rfl rfl ?e1 ?e2 ?e3 ?e4 ?e5 ?_))
              case e1 => exact cell_one_new wr _ _
              case e2 => intro u hu; simp at hu; subst hu; rfl
              case e3 => unfold maxLen; omega
              case e4 => omega
              case e5 => simp; omega
              intro v' w10 hown' hgrow _
              have hown2 : w10.ownsRow D 2 1 v' (κ ++ [y]).length ((κ ++ [y]).map (Value.int .i64)) := by rw [List.map_append, List.length_append]; exact hown'
              obtain ⟨a10, c10, rfl, hr10, hc10, hf10⟩ := fresh_of_owns hown2
              have s10 : wr.heap.size + 1 ≤ w10.heap.size := by have := hgrow.size; simpa using this
              have KK : Keeps (fun b => wo.heap.size ≤ b) wr w10 := (((Keeps.refl (fun b => wo.heap.size ≤ b) wr).alloc _).trans (Keeps.of_grown hgrow (fun b hb => HKN.out b hb)))
              have U10 := Lib.hid (UR.out.keeps KK (fun b hb e => by have := HVM.out b hb; omega) (fun x hx p hp e => by have := HRM.out x hx p hp; omega))
              have B10 : Hid (Below B w w10) := Lib.hid (BR.out.trans (KK.below (by omega) (fun b e => by omega)))
              have R10 := Lib.hid hr10
              have F10 : Hid (∀ p, a10 = some p → p.block < w10.heap.size ∧ u10.ownBlock ≠ some p.block) := Lib.hid (fun p hp => ⟨(hf10 p hp).2, fun e => by have := HVM.out _ e; have := (hf10 p hp).1; omega⟩)
              obtain ⟨κ2, hκ2⟩ : ∃ κ2, κ ++ [y] = κ2 := ⟨_, rfl⟩
              rw [hκ2] at R10 hc10 M9 ⊢
              have hLl : L.length ≤ 1000 := by have h1 := madeR_len HM.out; rw [List.length_map] at h1; omega
              have hB10 : B ≤ w10.heap.size := by omega
              clear hown' hown2 hgrow hr10 hf10 hκ2 K9 HKN KK
              go_wp2_with (first | (at_builtin; refine wpList_append_own_at _ rfl _ _ 32 rfl B 22 i0 (.slice none 0 0) 1 24 Tryd.underlying32 I.out Z0.out Z1.out Z2.out rfl (by decide) _ _ _ rfl (U10.out.own.alloc _) ⟨w10.heap.size, 0, none⟩ 1 1 [.slice a10 κ2.length c10] rfl rfl ?f1 ?f2 ?f3 ?f4 ?f5 ?_))
              case f1 => exact cell_one_new w10 _ _
              case f2 => intro u hu; simp at hu; subst hu; rfl
              case f3 => unfold maxLen; omega
              case f4 => omega
              case f5 => simp; omega
              intro v2 w11 hown hgrow _ hat
              have U11 := Lib.hid (U10.out.push (x := (a10, κ2, c10)) R10.out hc10 F10.out hown hgrow (by simpa using hat))
              have B11 := Lib.hid (U10.out.belowW B10.out hB10 hgrow)
              clear hown hgrow hat
              go_wp2_with fail
              go_roundw
              case rel => exact ⟨i + 1, L ++ [(a10, κ2, c10)], (κ.length : Int) + 1, by omega, by go_num, rfl, NW, U11, Lib.hid (by rw [M9.out, List.map_append]; rfl), B11⟩
              case measure => simp [intOf]; omega
    · obtain rfl : i = rs.length := by omega
      have hLl : L.length ≤ 1000 := by have h1 := madeR_len HM.out; rw [List.length_map] at h1; omega
      obtain ⟨ua, uc, rfl, hRR⟩ := HU.out.rrow
      have hwt : wt = ((kw + 1 : Nat) : Int) := by rw [HWT.out, if_neg (by omega)]; omega
      rw [hwt]
      have wide : ∀ x ∈ L, x.2.1.length ≤ 1000000 := fun x hx => by
        obtain ⟨κ, hκ, v, e⟩ := madeR_rows (by rw [KL.out]; exact Nat.le_refl _) HM.out x.2.1 (List.mem_map_of_mem hx)
        obtain ⟨j, hj, e2⟩ := List.getElem_of_mem hκ
        have h5 := KV.out j (by rw [← KL.out]; exact hj)
        unfold kyAt at h5
        rw [List.getElem?_eq_getElem hj] at h5
        simp only [Option.getD_some] at h5
        rw [e, List.length_append, ← e2, h5]; simp; omega
      have cs := sorted_calls2 (kw + 1) ua uc L wo hRR (by omega) hLl wide
      clear hRR wide hwt HWT
      go_wp2_with fail
      refine cl.mono ?_
      rintro e w' ⟨rfl, rfl⟩
      clear cl
      go_wp2_with fail
      refine cs.mono ?_
      rintro e wz ⟨g, c9, L9, rfl, hl9, hr9, _, hb9⟩
      have R9 := Lib.hid (show LByRet w (kw + 1) (madeTo kys (elL rs wd (c : Int)) k rs.length) (.returned (.tuple #[.slice (some ⟨g, 0, none⟩) L9.length c9, .bool true])) wz from .inr ⟨_, g, c9, L9, HM.out, rfl, hl9, hr9, by rw [HB.out]; exact HBe.out.trans (hb9.mono hBo)⟩)
      clear cs hl9 hr9 hb9
      go_wp2_with fail
      go_ret2
      exact R9.out
set_option maxRecDepth 100000 in
set_option maxHeartbeats 4000000 in
theorem lawByLo {w : World} {p : Option Addr} {wd : Nat} {rs : List (List Int)} (h : Seg w p wd rs) (ka : Option Addr) (kc : Nat) (keys : List Int) (hk : Row w ka keys) (hkl : keys.length ≤ 900) (hwd : wd ≤ 900) (hrs : rs.length ≤ 1000) (h1 : 0 < rs.length) (k : Int) (col : Int) (hc : col < 0) (hez : InR (elL rs wd col)) :
    Calls Tryd.prog 15 #[.pointer p, .slice ka keys.length kc, .int .i64 k, .int .i64 col] w (LByRet w ((validP wd keys).length + 1) (madeTo (rs.map fun r => keyL r keys) (elL rs wd col) k rs.length)) := by
  obtain ⟨i0, hi0, hz0, hz1, hz2⟩ := info_parts info22
  obtain ⟨i2, hi2, hx0, hx1, hx2⟩ := info_parts info2
  have I := Lib.hid hi0
  have Z0 := Lib.hid hz0
  have Z1 := Lib.hid hz1
  have Z2 := Lib.hid hz2
  have I' := Lib.hid hi2
  have Z0' := Lib.hid hx0
  have Z1' := Lib.hid hx1
  have Z2' := Lib.hid hx2
  clear hi0 hz0 hz1 hz2 hi2 hx0 hx1 hx2
  have HS := Lib.hid h
  have HK := Lib.hid hk
  have HEZ := Lib.hid hez
  have WR : Hid (∀ r ∈ rs, r.length = wd) := Lib.hid h.2.1
  have u0 : decide ((0 : Int) ≤ col) = false := decide_eq_false (by omega)
  have EL : Hid (∀ j, j < rs.length → at0 (elL rs wd col) j = 0) := Lib.hid (fun j hj => elL_out (decide_eq_false (by omega)))
  clear h hk hez
  have VL : (validP wd keys).length ≤ 900 := Nat.le_trans (validP_len wd keys) hkl
  have KL : Hid ((rs.map fun r => keyL r keys).length = rs.length) := Lib.hid (by simp)
  have KY : Hid (∀ i, i < rs.length → kyAt (rs.map fun r => keyL r keys) i = keyL (rowAt rs i) keys) := Lib.hid (fun i hi => kyAt_map hi)
  have KV : Hid (∀ i, i < rs.length → (kyAt (rs.map fun r => keyL r keys) i).length = (validP wd keys).length) := Lib.hid (fun i hi => by
    rw [kyAt_map hi, keyL_valid, WR.out _ (rowAt_mem hi)])
  generalize hky : (rs.map fun r => keyL r keys) = kys at *
  have HKY := Lib.hid hky
  clear hky
  have HKV : Hid ((validP wd keys).length = (validP wd keys).length) := Lib.hid rfl
  obtain ⟨kw, hkw⟩ : ∃ kw, (validP wd keys).length = kw := ⟨_, rfl⟩
  rw [hkw] at KV VL ⊢
  clear hkw HKV
  obtain ⟨B, hB⟩ : ∃ B, w.heap.size = B := ⟨_, rfl⟩
  have HB := Lib.hid hB
  have U0 := Lib.hid (UL.nil B w (Nat.le_of_eq hB.symm))
  have B0 : Hid (Below B w (w.alloc (.cells #[] 22))) := Lib.hid ((Below.refl _ _).alloc (Nat.le_of_eq hB.symm) _)
  clear hB
  go_enter Tryd.func15, Tryd.ntmps15
  go_wp2_with fail
  generalize World.alloc w _ = w0 at *
  generalize Value.slice (some ⟨w.heap.size, 0, none⟩) 0 0 = v0 at *
  go_loopw [12, 10, 11] (fun s v t wr => ∃ (i : Nat) (L : List RV) (wt : Int), i ≤ rs.length ∧ s = .int .i64 i ∧ t = .int .i64 wt ∧ Hid (wt = if i = 0 then 1 else (kw : Int) + 1) ∧ Hid (UL B wr v L) ∧ Hid (madeTo kys (elL rs wd col) k i = some (L.map (·.2.1))) ∧ Hid (Below B w wr)) (fun s _ _ _ => rs.length - (intOf s).toNat)
  case atStart => exact ⟨0, [], 1, Nat.zero_le _, rfl, rfl, Lib.hid rfl, U0, Lib.hid rfl, B0⟩
  case round =>
    obtain ⟨i, L, wt, hi, rfl, rfl, HWT, HU, HM, HBe⟩ := hrel
    clear U0 B0
    obtain ⟨wo, rfl⟩ : ∃ x, x = wr := ⟨wr, rfl⟩
    have hBo : B ≤ wo.heap.size := by have := HBe.out.size; rw [HB.out] at this; exact this
    have cl := segLen_calls (HS.out.belowB HB.out HBe.out)
    by_cases hlt : i < rs.length
    · have cr := segRow_calls (HS.out.belowB HB.out HBe.out) i hlt (by omega) (by omega)
      have RL : Hid ((rowAt rs i).length = wd) := Lib.hid (WR.out _ (rowAt_mem hlt))
      have KI : Hid (keyL (rowAt rs i) keys = kyAt kys i) := Lib.hid (KY.out i hlt).symm
      have HVM : Hid (∀ b, u10.ownBlock = some b → b < wo.heap.size) := Lib.hid (fun b hb => (HU.out.own.lt b hb).2)
      have HRM : Hid (∀ x ∈ L, ∀ p, x.1 = some p → p.block < wo.heap.size) := Lib.hid (fun x hx p hp => ((HU.out.rows x hx).2 p hp).1)
      go_wp2_with fail
      refine cl.mono ?_
      rintro e w' ⟨rfl, rfl⟩
      clear cl
      go_wp2_with fail
      refine cr.mono ?_
      rintro e w4 ⟨ra, rc, rfl, hr4, _, hb4⟩
      have B4 : Hid (Below B w w4) := Lib.hid (HBe.out.trans (hb4.mono hBo))
      have ck := lawKeyO_calls ra ka rc kc (rowAt rs i) keys w4 hr4 (HK.out.belowB HB.out B4.out) (by rw [RL.out]; omega) (by omega)
      rw [KI.out] at ck
      have HB4 := Lib.hid hb4
      clear hr4 hb4 cr
      go_wp2_with fail
      refine ck.mono ?_
      rintro e wc ⟨vk, rfl, hk5, hb5⟩
      have hB4 : B ≤ w4.heap.size := by have := B4.out.size; rw [HB.out] at this; exact this
      have BC : Hid (Below B w wc) := Lib.hid (B4.out.trans (hb5.mono hB4))
      have UC := Lib.hid ((HU.out.below HB4.out).below hb5)
      have hDM : wo.heap.size ≤ w4.heap.size := HB4.out.size
      have hD5 : w4.heap.size ≤ wc.heap.size := hb5.size
      obtain ⟨D, hD⟩ : ∃ D, w4.heap.size = D := ⟨_, rfl⟩
      rw [hD] at hk5 hDM hD5
      have HKN : Hid (∀ b, vk.ownBlock = some b → wo.heap.size ≤ b) := Lib.hid (fun b hb => by have := (hk5.lt b hb).1; omega)
      have HKO := Lib.hid hk5
      obtain ⟨ya, yc, hye, hyr⟩ := row_of_owns hk5
      rw [hye] at HKO HKN ⊢
      have HYR := Lib.hid hyr
      have KVi := KV.out i hlt
      obtain ⟨κ, hκ⟩ : ∃ κ, kyAt kys i = κ := ⟨_, rfl⟩
      have HKA := Lib.hid hκ
      rw [hκ] at HKO HKN HYR KVi ⊢
      have HKVi := Lib.hid KVi
      have hκl : κ.length ≤ 900 := by omega
      clear hk5 hb5 ck hye hyr hD hκ KVi
      obtain ⟨C, hC⟩ : ∃ C, wc.heap.size = C := ⟨_, rfl⟩
      have HC := Lib.hid hC
      have hBC : B ≤ C := by omega
      have LI0 : Hid ((wc.alloc (.cells #[] 2)).ownsRow C 2 1 (.slice (some ⟨wc.heap.size, 0, none⟩) 0 0) 0 []) := Lib.hid (World.ownsRow_lit (base := C) (e := 2) (size := 1) wc #[] 0 (Nat.le_of_eq hC.symm) (by decide) rfl)
      have BI0 : Hid (Below C wc (wc.alloc (.cells #[] 2))) := Lib.hid ((Below.refl _ _).alloc (Nat.le_of_eq hC.symm) _)
      clear hC
      go_wp2_with fail
      generalize World.alloc wc _ = wi at *
      generalize Value.slice (some ⟨wc.heap.size, 0, none⟩) 0 0 = vi at *
      go_loopw [16, 14, 15] (fun s v t wv => ∃ (m : Nat) (fb : Bool), m ≤ rs.length ∧ s = .int .i64 m ∧ t = .bool fb ∧ Hid (wv.ownsRow C 2 1 v (listTo kys (elL rs wd col) κ m).length ((listTo kys (elL rs wd col) κ m).map (Value.int .i64))) ∧ Hid (FB kys i m fb) ∧ Hid (Below C wc wv)) (fun s _ _ _ => rs.length - (intOf s).toNat)
      case atStart => exact ⟨0, true, Nat.zero_le _, rfl, rfl, LI0, Lib.hid ⟨fun _ j hj => by omega, fun _ => rfl⟩, BI0⟩
      case round =>
        obtain ⟨m, fb, hm, rfl, rfl, HL, HF, HBw⟩ := hrel
        have hCr : C ≤ wr.heap.size := by have := HBw.out.size; rw [HC.out] at this; exact this
        have BR : Hid (Below B w wr) := Lib.hid (BC.out.trans (HBw.out.mono hBC))
        have cl := segLen_calls (HS.out.belowB HB.out BR.out)
        by_cases hml : m < rs.length
        · have cr := segRow_calls (HS.out.belowB HB.out BR.out) m hml (by omega) (by omega)
          have RLm : Hid ((rowAt rs m).length = wd) := Lib.hid (WR.out _ (rowAt_mem hml))
          have KM : Hid (keyL (rowAt rs m) keys = kyAt kys m) := Lib.hid (KY.out m hml).symm
          have KLm : Hid ((kyAt kys m).length ≤ 900) := Lib.hid (by rw [KV.out m hml]; exact VL)
          have LL : (listTo kys (elL rs wd col) κ m).length ≤ 1000 := Nat.le_trans (listTo_len _ _ _ _) (by omega)
          go_wp2_with fail
          refine cl.mono ?_
          rintro e w' ⟨rfl, rfl⟩
          clear cl
          go_wp2_with fail
          refine cr.mono ?_
          rintro e w7 ⟨qa, qc, rfl, hr7, _, hb7⟩
          have BW7 : Hid (Below C wc w7) := Lib.hid (HBw.out.trans (hb7.mono hCr))
          have B7 : Hid (Below B w w7) := Lib.hid (BC.out.trans (BW7.out.mono hBC))
          have L7 := Lib.hid (owns_keeps HL.out (Keeps.of_below (N := fun _ => False) hb7) (fun _ _ h => h))
          have c7 : C ≤ w7.heap.size := by have := hb7.size; omega
          have ck := lawKeyF_calls qa ka qc kc (rowAt rs m) keys w7 hr7 (HK.out.belowB HB.out B7.out) (by rw [RLm.out]; omega) (by omega)
          rw [KM.out] at ck
          clear hr7 hb7 cr HL HBw BR hCr
          go_wp2_with fail
          refine ck.mono ?_
          rintro e w8 ⟨za, zc, rfl, hr8, _, _, hb8⟩
          have BW8 : Hid (Below C wc w8) := Lib.hid (BW7.out.trans (hb8.mono c7))
          have L8 := Lib.hid (owns_keeps L7.out (Keeps.of_below (N := fun _ => False) hb8) (fun _ _ h => h))
          have c8 : C ≤ w8.heap.size := by have := hb8.size; omega
          have cc := lawCompare_calls za ya zc yc (kyAt kys m) κ w8 hr8 (HYR.out.belowB HC.out BW8.out) (by have := KLm.out; omega) (by omega)
          clear hr8 hb8 ck L7 BW7 B7 c7
          by_cases hE : kyAt kys m = κ
          · have LT := Lib.hid (listTo_hit (el := elL rs wd col) hE)
            have F9 := Lib.hid (HF.out.hit (hE.trans HKA.out.symm))
            have hcv : cmpR (kyAt kys m) κ = 0 := by rw [hE, cmpR_self]
            rw [hcv] at cc
            clear hE hcv
            have t1 : decide ((m : Int) ≥ (i : Int)) = decide (i ≤ m) := by simp
            cases hfb : fb with
            | false =>
              rw [hfb] at F9
              clear hfb
              go_wp2_with fail
              refine cc.mono ?_
              rintro e wv ⟨rfl, q, hq⟩
              have HBV : Hid (Below C wc wv) := Lib.hid (by rw [hq]; exact below_drewN BW8.out q)
              have HLV := Lib.hid (show wv.ownsRow C 2 1 u14 _ _ by rw [hq]; exact owns_keeps L8.out (Keeps.of_below (N := fun _ => False) (below_drewN (Below.refl _ _) q)) (fun _ _ h => h))
              have hCv : C ≤ wv.heap.size := by rw [hq]; simpa using c8
              have BX : Hid (Below B w wv) := Lib.hid (BC.out.trans (HBV.out.mono hBC))
              clear hq cc L8 BW8 c8
              rw [EL.out m hml] at LT
              obtain ⟨y, hy⟩ : ∃ y : Int, y = 0 := ⟨0, rfl⟩
              rw [← hy] at LT
              generalize listTo kys (elL rs wd col) κ m = ys at *
              subst hy
              go_wp2_with (first | (at_builtin; refine wpList_append_own _ rfl _ _ 22 rfl C 2 i2 (.int .i64 0) 1 8 Tryd.underlying22 I'.out Z0'.out Z1'.out Z2'.out rfl (by decide) _ _ _ rfl (HLV.out.alloc _) ⟨wv.heap.size, 0, none⟩ 1 1 [.int .i64 0] rfl rfl ?c1 ?c2 ?c3 ?c4 ?c5 ?_))
              case c1 => exact cell_one_new wv _ _
              case c2 => intro u hu; simp at hu; subst hu; rfl
              case c3 => unfold maxLen; omega
              case c4 => omega
              case c5 => simp; omega
              intro v' w9 hown' hgrow _
              have R9 := app_step hCv HBV.out HLV.out hown' hgrow
              have L9 := Lib.hid R9.1
              have B9 := Lib.hid R9.2
              rw [← LT.out] at L9
              clear hown' hgrow R9
              go_wp2_with fail
              go_roundw
              case rel => exact ⟨m + 1, _, by omega, by go_num, rfl, L9, F9, B9⟩
              case measure => simp [intOf]; omega
            | true =>
              rw [hfb] at F9
              clear hfb
              rw [Bool.true_and] at F9
              go_wp2_with fail
              refine cc.mono ?_
              rintro e wv ⟨rfl, q, hq⟩
              have HBV : Hid (Below C wc wv) := Lib.hid (by rw [hq]; exact below_drewN BW8.out q)
              have HLV := Lib.hid (show wv.ownsRow C 2 1 u14 _ _ by rw [hq]; exact owns_keeps L8.out (Keeps.of_below (N := fun _ => False) (below_drewN (Below.refl _ _) q)) (fun _ _ h => h))
              have hCv : C ≤ wv.heap.size := by rw [hq]; simpa using c8
              have BX : Hid (Below B w wv) := Lib.hid (BC.out.trans (HBV.out.mono hBC))
              clear hq cc L8 BW8 c8
              rw [EL.out m hml] at LT
              obtain ⟨y, hy⟩ : ∃ y : Int, y = 0 := ⟨0, rfl⟩
              rw [← hy] at LT
              generalize listTo kys (elL rs wd col) κ m = ys at *
              subst hy
              go_wp2_with (first | (at_builtin; refine wpList_append_own _ rfl _ _ 22 rfl C 2 i2 (.int .i64 0) 1 8 Tryd.underlying22 I'.out Z0'.out Z1'.out Z2'.out rfl (by decide) _ _ _ rfl (HLV.out.alloc _) ⟨wv.heap.size, 0, none⟩ 1 1 [.int .i64 0] rfl rfl ?c1 ?c2 ?c3 ?c4 ?c5 ?_))
              case c1 => exact cell_one_new wv _ _
              case c2 => intro u hu; simp at hu; subst hu; rfl
              case c3 => unfold maxLen; omega
              case c4 => omega
              case c5 => simp; omega
              intro v' w9 hown' hgrow _
              have R9 := app_step hCv HBV.out HLV.out hown' hgrow
              have L9 := Lib.hid R9.1
              have B9 := Lib.hid R9.2
              rw [← LT.out] at L9
              clear hown' hgrow R9
              go_wp2_with fail
              go_roundw
              case rel => exact ⟨m + 1, _, by omega, by go_num, rfl, L9, F9, B9⟩
              case measure => simp [intOf]; omega
          · have LT := Lib.hid (listTo_no (el := elL rs wd col) hE)
            have F9 := Lib.hid (HF.out.no (fun e => hE (e.trans HKA.out)))
            have t1 : (cmpR (kyAt kys m) κ != 0) = true := by
              rw [bne_iff_ne]; exact fun e => hE (cmpR_eq e)
            generalize cmpR (kyAt kys m) κ = cv at *
            clear hE
            go_wp2_with fail
            refine cc.mono ?_
            rintro e wv ⟨rfl, q, hq⟩
            have HBV : Hid (Below C wc wv) := Lib.hid (by rw [hq]; exact below_drewN BW8.out q)
            have HLV := Lib.hid (show wv.ownsRow C 2 1 u14 _ _ by rw [hq]; exact owns_keeps L8.out (Keeps.of_below (N := fun _ => False) (below_drewN (Below.refl _ _) q)) (fun _ _ h => h))
            rw [← LT.out] at HLV
            clear hq cc L8 BW8 c8
            go_wp2_with fail
            go_roundw
            case rel => exact ⟨m + 1, fb, by omega, by go_num, rfl, HLV, F9, HBV⟩
            case measure => simp [intOf]; omega
        · obtain rfl : m = rs.length := by omega
          have UR := Lib.hid (UC.out.below (by rw [HC.out]; exact HBw.out))
          have HFA := Lib.hid (FB.all (by rw [KL.out]; exact HF.out) (by rw [KL.out]; exact hlt))
          have NW : Hid ((κ.length : Int) + 1 = if i + 1 = 0 then 1 else (kw : Int) + 1) := Lib.hid (by rw [if_neg (by omega), HKVi.out])
          cases hfb : fb with
          | false =>
            have HIN : Hid (kyAt kys i ∈ kys.take i) := Lib.hid (by
              refine Classical.byContradiction fun hn => ?_
              have := HFA.out.2 hn
              rw [hfb] at this; cases this)
            have M9 : Hid (madeTo kys (elL rs wd col) k (i + 1) = some (L.map (·.2.1))) := Lib.hid (by rw [made_skip HIN.out]; exact HM.out)
            clear hfb
            go_wp2_with fail
            refine cl.mono ?_
            rintro e w' ⟨rfl, rfl⟩
            clear cl
            go_wp2_with fail
            go_roundw
            case rel => exact ⟨i + 1, L, (κ.length : Int) + 1, by omega, by go_num, rfl, NW, UR, M9, BR⟩
            case measure => simp [intOf]; omega
          | true =>
            have HIN : Hid (¬ kyAt kys i ∈ kys.take i) := Lib.hid (HFA.out.1 hfb)
            clear hfb
            have hfin := HL.out
            rw [← KL.out, listTo_all] at hfin
            obtain ⟨la, lc, hle, hlr⟩ := row_of_owns hfin
            have HLL : Hid ((listOf kys (elL rs wd col) κ).length ≤ 1000) := Lib.hid (by rw [← listTo_all]; exact Nat.le_trans (listTo_len _ _ _ _) (by rw [KL.out]; exact hrs))
            have HLZ : Hid (InR (listOf kys (elL rs wd col) κ)) := Lib.hid (fun z hz => by
              unfold listOf at hz
              obtain ⟨j, hj, rfl⟩ := List.mem_map.1 hz
              exact at_mem HEZ.out j)
            have cm := made_is k la lc (listOf kys (elL rs wd col) κ) wr hlr HLL.out HLZ.out
            have K9 := Lib.hid (owns_keeps HKO.out (Keeps.of_below (N := fun _ => False) (by rw [HC.out]; exact HBw.out)) (fun _ _ h => h))
            rw [hle]
            have hD9 : D ≤ wr.heap.size := by have := HC.out; omega
            clear hfin hlr hle HL HF HLL HLZ
            cases hok : okOf (mkOf k (listOf kys (elL rs wd col) κ)) with
            | false =>
              rw [hok] at cm
              have HFN : Hid (madeTo kys (elL rs wd col) k rs.length = none) := Lib.hid (made_none (made_stop HIN.out (by rw [HKA.out]; exact (ok_none hok).1)) (by omega))
              clear hok
              go_wp2_with fail
              refine cl.mono ?_
              rintro e w' ⟨rfl, rfl⟩
              clear cl
              go_wp2_with fail
              refine cm.mono ?_
              rintro e w' ⟨rfl, rfl⟩
              clear cm
              go_wp2_with fail
              go_ret2
              exact .inl ⟨HFN.out, rfl, by rw [HB.out]; exact BR.out⟩
            | true =>
              rw [hok] at cm
              have HV := Lib.hid (ok_some hok)
              have M9 := Lib.hid (made_step HIN.out HM.out (by rw [HKA.out]; exact HV.out))
              rw [HKA.out] at M9
              clear hok HV
              generalize vOf (mkOf k (listOf kys (elL rs wd col) κ)) = y at *
              go_wp2_with fail
              refine cl.mono ?_
              rintro e w' ⟨rfl, rfl⟩
              clear cl
              go_wp2_with fail
              refine cm.mono ?_
              rintro e w' ⟨rfl, rfl⟩
              clear cm
              go_wp2_with (first | (at_builtin; refine wpList_append_own _ rfl _ _ 22 rfl D 2 i2 (.int .i64 0) 1 8 Tryd.underlying22 I'.out Z0'.out Z1'.out Z2'.out rfl (by decide) _ _ _ rfl (K9.out.alloc _) ⟨wr.heap.size, 0, none⟩ 1 1 [.int .i64 y] rfl rfl ?e1 ?e2 ?e3 ?e4 ?e5 ?_))
              case e1 => exact cell_one_new wr _ _
              case e2 => intro u hu; simp at hu; subst hu; rfl
              case e3 => unfold maxLen; omega
              case e4 => omega
              case e5 => simp; omega
              intro v' w10 hown' hgrow _
              have hown2 : w10.ownsRow D 2 1 v' (κ ++ [y]).length ((κ ++ [y]).map (Value.int .i64)) := by rw [List.map_append, List.length_append]; exact hown'
              obtain ⟨a10, c10, rfl, hr10, hc10, hf10⟩ := fresh_of_owns hown2
              have s10 : wr.heap.size + 1 ≤ w10.heap.size := by have := hgrow.size; simpa using this
              have KK : Keeps (fun b => wo.heap.size ≤ b) wr w10 := (((Keeps.refl (fun b => wo.heap.size ≤ b) wr).alloc _).trans (Keeps.of_grown hgrow (fun b hb => HKN.out b hb)))
              have U10 := Lib.hid (UR.out.keeps KK (fun b hb e => by have := HVM.out b hb; omega) (fun x hx p hp e => by have := HRM.out x hx p hp; omega))
              have B10 : Hid (Below B w w10) := Lib.hid (BR.out.trans (KK.below (by omega) (fun b e => by omega)))
              have R10 := Lib.hid hr10
              have F10 : Hid (∀ p, a10 = some p → p.block < w10.heap.size ∧ u10.ownBlock ≠ some p.block) := Lib.hid (fun p hp => ⟨(hf10 p hp).2, fun e => by have := HVM.out _ e; have := (hf10 p hp).1; omega⟩)
              obtain ⟨κ2, hκ2⟩ : ∃ κ2, κ ++ [y] = κ2 := ⟨_, rfl⟩
              rw [hκ2] at R10 hc10 M9 ⊢
              have hLl : L.length ≤ 1000 := by have h1 := madeR_len HM.out; rw [List.length_map] at h1; omega
              have hB10 : B ≤ w10.heap.size := by omega
              clear hown' hown2 hgrow hr10 hf10 hκ2 K9 HKN KK
              go_wp2_with (first | (at_builtin; refine wpList_append_own_at _ rfl _ _ 32 rfl B 22 i0 (.slice none 0 0) 1 24 Tryd.underlying32 I.out Z0.out Z1.out Z2.out rfl (by decide) _ _ _ rfl (U10.out.own.alloc _) ⟨w10.heap.size, 0, none⟩ 1 1 [.slice a10 κ2.length c10] rfl rfl ?f1 ?f2 ?f3 ?f4 ?f5 ?_))
              case f1 => exact cell_one_new w10 _ _
              case f2 => intro u hu; simp at hu; subst hu; rfl
              case f3 => unfold maxLen; omega
              case f4 => omega
              case f5 => simp; omega
              intro v2 w11 hown hgrow _ hat
              have U11 := Lib.hid (U10.out.push (x := (a10, κ2, c10)) R10.out hc10 F10.out hown hgrow (by simpa using hat))
              have B11 := Lib.hid (U10.out.belowW B10.out hB10 hgrow)
              clear hown hgrow hat
              go_wp2_with fail
              go_roundw
              case rel => exact ⟨i + 1, L ++ [(a10, κ2, c10)], (κ.length : Int) + 1, by omega, by go_num, rfl, NW, U11, Lib.hid (by rw [M9.out, List.map_append]; rfl), B11⟩
              case measure => simp [intOf]; omega
    · obtain rfl : i = rs.length := by omega
      have hLl : L.length ≤ 1000 := by have h1 := madeR_len HM.out; rw [List.length_map] at h1; omega
      obtain ⟨ua, uc, rfl, hRR⟩ := HU.out.rrow
      have hwt : wt = ((kw + 1 : Nat) : Int) := by rw [HWT.out, if_neg (by omega)]; omega
      rw [hwt]
      have wide : ∀ x ∈ L, x.2.1.length ≤ 1000000 := fun x hx => by
        obtain ⟨κ, hκ, v, e⟩ := madeR_rows (by rw [KL.out]; exact Nat.le_refl _) HM.out x.2.1 (List.mem_map_of_mem hx)
        obtain ⟨j, hj, e2⟩ := List.getElem_of_mem hκ
        have h5 := KV.out j (by rw [← KL.out]; exact hj)
        unfold kyAt at h5
        rw [List.getElem?_eq_getElem hj] at h5
        simp only [Option.getD_some] at h5
        rw [e, List.length_append, ← e2, h5]; simp; omega
      have cs := sorted_calls2 (kw + 1) ua uc L wo hRR (by omega) hLl wide
      clear hRR wide hwt HWT
      go_wp2_with fail
      refine cl.mono ?_
      rintro e w' ⟨rfl, rfl⟩
      clear cl
      go_wp2_with fail
      refine cs.mono ?_
      rintro e wz ⟨g, c9, L9, rfl, hl9, hr9, _, hb9⟩
      have R9 := Lib.hid (show LByRet w (kw + 1) (madeTo kys (elL rs wd col) k rs.length) (.returned (.tuple #[.slice (some ⟨g, 0, none⟩) L9.length c9, .bool true])) wz from .inr ⟨_, g, c9, L9, HM.out, rfl, hl9, hr9, by rw [HB.out]; exact HBe.out.trans (hb9.mono hBo)⟩)
      clear cs hl9 hr9 hb9
      go_wp2_with fail
      go_ret2
      exact R9.out
set_option maxRecDepth 100000 in
set_option maxHeartbeats 4000000 in
theorem lawByHi {w : World} {p : Option Addr} {wd : Nat} {rs : List (List Int)} (h : Seg w p wd rs) (ka : Option Addr) (kc : Nat) (keys : List Int) (hk : Row w ka keys) (hkl : keys.length ≤ 900) (hwd : wd ≤ 900) (hrs : rs.length ≤ 1000) (h1 : 0 < rs.length) (k : Int) (col : Int) (hc : (wd : Int) ≤ col) (hez : InR (elL rs wd col)) :
    Calls Tryd.prog 15 #[.pointer p, .slice ka keys.length kc, .int .i64 k, .int .i64 col] w (LByRet w ((validP wd keys).length + 1) (madeTo (rs.map fun r => keyL r keys) (elL rs wd col) k rs.length)) := by
  obtain ⟨i0, hi0, hz0, hz1, hz2⟩ := info_parts info22
  obtain ⟨i2, hi2, hx0, hx1, hx2⟩ := info_parts info2
  have I := Lib.hid hi0
  have Z0 := Lib.hid hz0
  have Z1 := Lib.hid hz1
  have Z2 := Lib.hid hz2
  have I' := Lib.hid hi2
  have Z0' := Lib.hid hx0
  have Z1' := Lib.hid hx1
  have Z2' := Lib.hid hx2
  clear hi0 hz0 hz1 hz2 hi2 hx0 hx1 hx2
  have HS := Lib.hid h
  have HK := Lib.hid hk
  have HEZ := Lib.hid hez
  have WR : Hid (∀ r ∈ rs, r.length = wd) := Lib.hid h.2.1
  have u0 : decide ((0 : Int) ≤ col) = true := decide_eq_true (by omega)
  have u1 : decide (col < (wd : Int)) = false := decide_eq_false (by omega)
  have EL : Hid (∀ j, j < rs.length → at0 (elL rs wd col) j = 0) := Lib.hid (fun j hj => elL_out (decide_eq_false (by omega)))
  clear h hk hez
  have VL : (validP wd keys).length ≤ 900 := Nat.le_trans (validP_len wd keys) hkl
  have KL : Hid ((rs.map fun r => keyL r keys).length = rs.length) := Lib.hid (by simp)
  have KY : Hid (∀ i, i < rs.length → kyAt (rs.map fun r => keyL r keys) i = keyL (rowAt rs i) keys) := Lib.hid (fun i hi => kyAt_map hi)
  have KV : Hid (∀ i, i < rs.length → (kyAt (rs.map fun r => keyL r keys) i).length = (validP wd keys).length) := Lib.hid (fun i hi => by
    rw [kyAt_map hi, keyL_valid, WR.out _ (rowAt_mem hi)])
  generalize hky : (rs.map fun r => keyL r keys) = kys at *
  have HKY := Lib.hid hky
  clear hky
  have HKV : Hid ((validP wd keys).length = (validP wd keys).length) := Lib.hid rfl
  obtain ⟨kw, hkw⟩ : ∃ kw, (validP wd keys).length = kw := ⟨_, rfl⟩
  rw [hkw] at KV VL ⊢
  clear hkw HKV
  obtain ⟨B, hB⟩ : ∃ B, w.heap.size = B := ⟨_, rfl⟩
  have HB := Lib.hid hB
  have U0 := Lib.hid (UL.nil B w (Nat.le_of_eq hB.symm))
  have B0 : Hid (Below B w (w.alloc (.cells #[] 22))) := Lib.hid ((Below.refl _ _).alloc (Nat.le_of_eq hB.symm) _)
  clear hB
  go_enter Tryd.func15, Tryd.ntmps15
  go_wp2_with fail
  generalize World.alloc w _ = w0 at *
  generalize Value.slice (some ⟨w.heap.size, 0, none⟩) 0 0 = v0 at *
  go_loopw [12, 10, 11] (fun s v t wr => ∃ (i : Nat) (L : List RV) (wt : Int), i ≤ rs.length ∧ s = .int .i64 i ∧ t = .int .i64 wt ∧ Hid (wt = if i = 0 then 1 else (kw : Int) + 1) ∧ Hid (UL B wr v L) ∧ Hid (madeTo kys (elL rs wd col) k i = some (L.map (·.2.1))) ∧ Hid (Below B w wr)) (fun s _ _ _ => rs.length - (intOf s).toNat)
  case atStart => exact ⟨0, [], 1, Nat.zero_le _, rfl, rfl, Lib.hid rfl, U0, Lib.hid rfl, B0⟩
  case round =>
    obtain ⟨i, L, wt, hi, rfl, rfl, HWT, HU, HM, HBe⟩ := hrel
    clear U0 B0
    obtain ⟨wo, rfl⟩ : ∃ x, x = wr := ⟨wr, rfl⟩
    have hBo : B ≤ wo.heap.size := by have := HBe.out.size; rw [HB.out] at this; exact this
    have cl := segLen_calls (HS.out.belowB HB.out HBe.out)
    by_cases hlt : i < rs.length
    · have cr := segRow_calls (HS.out.belowB HB.out HBe.out) i hlt (by omega) (by omega)
      have RL : Hid ((rowAt rs i).length = wd) := Lib.hid (WR.out _ (rowAt_mem hlt))
      have KI : Hid (keyL (rowAt rs i) keys = kyAt kys i) := Lib.hid (KY.out i hlt).symm
      have HVM : Hid (∀ b, u10.ownBlock = some b → b < wo.heap.size) := Lib.hid (fun b hb => (HU.out.own.lt b hb).2)
      have HRM : Hid (∀ x ∈ L, ∀ p, x.1 = some p → p.block < wo.heap.size) := Lib.hid (fun x hx p hp => ((HU.out.rows x hx).2 p hp).1)
      go_wp2_with fail
      refine cl.mono ?_
      rintro e w' ⟨rfl, rfl⟩
      clear cl
      go_wp2_with fail
      refine cr.mono ?_
      rintro e w4 ⟨ra, rc, rfl, hr4, _, hb4⟩
      have B4 : Hid (Below B w w4) := Lib.hid (HBe.out.trans (hb4.mono hBo))
      have ck := lawKeyO_calls ra ka rc kc (rowAt rs i) keys w4 hr4 (HK.out.belowB HB.out B4.out) (by rw [RL.out]; omega) (by omega)
      rw [KI.out] at ck
      have HB4 := Lib.hid hb4
      clear hr4 hb4 cr
      go_wp2_with fail
      refine ck.mono ?_
      rintro e wc ⟨vk, rfl, hk5, hb5⟩
      have hB4 : B ≤ w4.heap.size := by have := B4.out.size; rw [HB.out] at this; exact this
      have BC : Hid (Below B w wc) := Lib.hid (B4.out.trans (hb5.mono hB4))
      have UC := Lib.hid ((HU.out.below HB4.out).below hb5)
      have hDM : wo.heap.size ≤ w4.heap.size := HB4.out.size
      have hD5 : w4.heap.size ≤ wc.heap.size := hb5.size
      obtain ⟨D, hD⟩ : ∃ D, w4.heap.size = D := ⟨_, rfl⟩
      rw [hD] at hk5 hDM hD5
      have HKN : Hid (∀ b, vk.ownBlock = some b → wo.heap.size ≤ b) := Lib.hid (fun b hb => by have := (hk5.lt b hb).1; omega)
      have HKO := Lib.hid hk5
      obtain ⟨ya, yc, hye, hyr⟩ := row_of_owns hk5
      rw [hye] at HKO HKN ⊢
      have HYR := Lib.hid hyr
      have KVi := KV.out i hlt
      obtain ⟨κ, hκ⟩ : ∃ κ, kyAt kys i = κ := ⟨_, rfl⟩
      have HKA := Lib.hid hκ
      rw [hκ] at HKO HKN HYR KVi ⊢
      have HKVi := Lib.hid KVi
      have hκl : κ.length ≤ 900 := by omega
      clear hk5 hb5 ck hye hyr hD hκ KVi
      obtain ⟨C, hC⟩ : ∃ C, wc.heap.size = C := ⟨_, rfl⟩
      have HC := Lib.hid hC
      have hBC : B ≤ C := by omega
      have LI0 : Hid ((wc.alloc (.cells #[] 2)).ownsRow C 2 1 (.slice (some ⟨wc.heap.size, 0, none⟩) 0 0) 0 []) := Lib.hid (World.ownsRow_lit (base := C) (e := 2) (size := 1) wc #[] 0 (Nat.le_of_eq hC.symm) (by decide) rfl)
      have BI0 : Hid (Below C wc (wc.alloc (.cells #[] 2))) := Lib.hid ((Below.refl _ _).alloc (Nat.le_of_eq hC.symm) _)
      clear hC
      go_wp2_with fail
      generalize World.alloc wc _ = wi at *
      generalize Value.slice (some ⟨wc.heap.size, 0, none⟩) 0 0 = vi at *
      go_loopw [16, 14, 15] (fun s v t wv => ∃ (m : Nat) (fb : Bool), m ≤ rs.length ∧ s = .int .i64 m ∧ t = .bool fb ∧ Hid (wv.ownsRow C 2 1 v (listTo kys (elL rs wd col) κ m).length ((listTo kys (elL rs wd col) κ m).map (Value.int .i64))) ∧ Hid (FB kys i m fb) ∧ Hid (Below C wc wv)) (fun s _ _ _ => rs.length - (intOf s).toNat)
      case atStart => exact ⟨0, true, Nat.zero_le _, rfl, rfl, LI0, Lib.hid ⟨fun _ j hj => by omega, fun _ => rfl⟩, BI0⟩
      case round =>
        obtain ⟨m, fb, hm, rfl, rfl, HL, HF, HBw⟩ := hrel
        have hCr : C ≤ wr.heap.size := by have := HBw.out.size; rw [HC.out] at this; exact this
        have BR : Hid (Below B w wr) := Lib.hid (BC.out.trans (HBw.out.mono hBC))
        have cl := segLen_calls (HS.out.belowB HB.out BR.out)
        by_cases hml : m < rs.length
        · have cr := segRow_calls (HS.out.belowB HB.out BR.out) m hml (by omega) (by omega)
          have RLm : Hid ((rowAt rs m).length = wd) := Lib.hid (WR.out _ (rowAt_mem hml))
          have KM : Hid (keyL (rowAt rs m) keys = kyAt kys m) := Lib.hid (KY.out m hml).symm
          have KLm : Hid ((kyAt kys m).length ≤ 900) := Lib.hid (by rw [KV.out m hml]; exact VL)
          have LL : (listTo kys (elL rs wd col) κ m).length ≤ 1000 := Nat.le_trans (listTo_len _ _ _ _) (by omega)
          go_wp2_with fail
          refine cl.mono ?_
          rintro e w' ⟨rfl, rfl⟩
          clear cl
          go_wp2_with fail
          refine cr.mono ?_
          rintro e w7 ⟨qa, qc, rfl, hr7, _, hb7⟩
          have BW7 : Hid (Below C wc w7) := Lib.hid (HBw.out.trans (hb7.mono hCr))
          have B7 : Hid (Below B w w7) := Lib.hid (BC.out.trans (BW7.out.mono hBC))
          have L7 := Lib.hid (owns_keeps HL.out (Keeps.of_below (N := fun _ => False) hb7) (fun _ _ h => h))
          have c7 : C ≤ w7.heap.size := by have := hb7.size; omega
          have ck := lawKeyF_calls qa ka qc kc (rowAt rs m) keys w7 hr7 (HK.out.belowB HB.out B7.out) (by rw [RLm.out]; omega) (by omega)
          rw [KM.out] at ck
          clear hr7 hb7 cr HL HBw BR hCr
          go_wp2_with fail
          refine ck.mono ?_
          rintro e w8 ⟨za, zc, rfl, hr8, _, _, hb8⟩
          have BW8 : Hid (Below C wc w8) := Lib.hid (BW7.out.trans (hb8.mono c7))
          have L8 := Lib.hid (owns_keeps L7.out (Keeps.of_below (N := fun _ => False) hb8) (fun _ _ h => h))
          have c8 : C ≤ w8.heap.size := by have := hb8.size; omega
          have cc := lawCompare_calls za ya zc yc (kyAt kys m) κ w8 hr8 (HYR.out.belowB HC.out BW8.out) (by have := KLm.out; omega) (by omega)
          clear hr8 hb8 ck L7 BW7 B7 c7
          by_cases hE : kyAt kys m = κ
          · have LT := Lib.hid (listTo_hit (el := elL rs wd col) hE)
            have F9 := Lib.hid (HF.out.hit (hE.trans HKA.out.symm))
            have hcv : cmpR (kyAt kys m) κ = 0 := by rw [hE, cmpR_self]
            rw [hcv] at cc
            clear hE hcv
            have t1 : decide ((m : Int) ≥ (i : Int)) = decide (i ≤ m) := by simp
            cases hfb : fb with
            | false =>
              rw [hfb] at F9
              clear hfb
              go_wp2_with fail
              refine cc.mono ?_
              rintro e wv ⟨rfl, q, hq⟩
              have HBV : Hid (Below C wc wv) := Lib.hid (by rw [hq]; exact below_drewN BW8.out q)
              have HLV := Lib.hid (show wv.ownsRow C 2 1 u14 _ _ by rw [hq]; exact owns_keeps L8.out (Keeps.of_below (N := fun _ => False) (below_drewN (Below.refl _ _) q)) (fun _ _ h => h))
              have hCv : C ≤ wv.heap.size := by rw [hq]; simpa using c8
              have BX : Hid (Below B w wv) := Lib.hid (BC.out.trans (HBV.out.mono hBC))
              clear hq cc L8 BW8 c8
              have cw := segWidth_calls (HS.out.belowB HB.out BX.out)
              rw [EL.out m hml] at LT
              obtain ⟨y, hy⟩ : ∃ y : Int, y = 0 := ⟨0, rfl⟩
              rw [← hy] at LT
              generalize listTo kys (elL rs wd col) κ m = ys at *
              go_wp2_with fail
              refine cw.mono ?_
              rintro e w' ⟨rfl, rfl⟩
              clear cw
              subst hy
              go_wp2_with (first | (at_builtin; refine wpList_append_own _ rfl _ _ 22 rfl C 2 i2 (.int .i64 0) 1 8 Tryd.underlying22 I'.out Z0'.out Z1'.out Z2'.out rfl (by decide) _ _ _ rfl (HLV.out.alloc _) ⟨wv.heap.size, 0, none⟩ 1 1 [.int .i64 0] rfl rfl ?c1 ?c2 ?c3 ?c4 ?c5 ?_))
              case c1 => exact cell_one_new wv _ _
              case c2 => intro u hu; simp at hu; subst hu; rfl
              case c3 => unfold maxLen; omega
              case c4 => omega
              case c5 => simp; omega
              intro v' w9 hown' hgrow _
              have R9 := app_step hCv HBV.out HLV.out hown' hgrow
              have L9 := Lib.hid R9.1
              have B9 := Lib.hid R9.2
              rw [← LT.out] at L9
              clear hown' hgrow R9
              go_wp2_with fail
              go_roundw
              case rel => exact ⟨m + 1, _, by omega, by go_num, rfl, L9, F9, B9⟩
              case measure => simp [intOf]; omega
            | true =>
              rw [hfb] at F9
              clear hfb
              rw [Bool.true_and] at F9
              go_wp2_with fail
              refine cc.mono ?_
              rintro e wv ⟨rfl, q, hq⟩
              have HBV : Hid (Below C wc wv) := Lib.hid (by rw [hq]; exact below_drewN BW8.out q)
              have HLV := Lib.hid (show wv.ownsRow C 2 1 u14 _ _ by rw [hq]; exact owns_keeps L8.out (Keeps.of_below (N := fun _ => False) (below_drewN (Below.refl _ _) q)) (fun _ _ h => h))
              have hCv : C ≤ wv.heap.size := by rw [hq]; simpa using c8
              have BX : Hid (Below B w wv) := Lib.hid (BC.out.trans (HBV.out.mono hBC))
              clear hq cc L8 BW8 c8
              have cw := segWidth_calls (HS.out.belowB HB.out BX.out)
              rw [EL.out m hml] at LT
              obtain ⟨y, hy⟩ : ∃ y : Int, y = 0 := ⟨0, rfl⟩
              rw [← hy] at LT
              generalize listTo kys (elL rs wd col) κ m = ys at *
              go_wp2_with fail
              refine cw.mono ?_
              rintro e w' ⟨rfl, rfl⟩
              clear cw
              subst hy
              go_wp2_with (first | (at_builtin; refine wpList_append_own _ rfl _ _ 22 rfl C 2 i2 (.int .i64 0) 1 8 Tryd.underlying22 I'.out Z0'.out Z1'.out Z2'.out rfl (by decide) _ _ _ rfl (HLV.out.alloc _) ⟨wv.heap.size, 0, none⟩ 1 1 [.int .i64 0] rfl rfl ?c1 ?c2 ?c3 ?c4 ?c5 ?_))
              case c1 => exact cell_one_new wv _ _
              case c2 => intro u hu; simp at hu; subst hu; rfl
              case c3 => unfold maxLen; omega
              case c4 => omega
              case c5 => simp; omega
              intro v' w9 hown' hgrow _
              have R9 := app_step hCv HBV.out HLV.out hown' hgrow
              have L9 := Lib.hid R9.1
              have B9 := Lib.hid R9.2
              rw [← LT.out] at L9
              clear hown' hgrow R9
              go_wp2_with fail
              go_roundw
              case rel => exact ⟨m + 1, _, by omega, by go_num, rfl, L9, F9, B9⟩
              case measure => simp [intOf]; omega
          · have LT := Lib.hid (listTo_no (el := elL rs wd col) hE)
            have F9 := Lib.hid (HF.out.no (fun e => hE (e.trans HKA.out)))
            have t1 : (cmpR (kyAt kys m) κ != 0) = true := by
              rw [bne_iff_ne]; exact fun e => hE (cmpR_eq e)
            generalize cmpR (kyAt kys m) κ = cv at *
            clear hE
            go_wp2_with fail
            refine cc.mono ?_
            rintro e wv ⟨rfl, q, hq⟩
            have HBV : Hid (Below C wc wv) := Lib.hid (by rw [hq]; exact below_drewN BW8.out q)
            have HLV := Lib.hid (show wv.ownsRow C 2 1 u14 _ _ by rw [hq]; exact owns_keeps L8.out (Keeps.of_below (N := fun _ => False) (below_drewN (Below.refl _ _) q)) (fun _ _ h => h))
            rw [← LT.out] at HLV
            clear hq cc L8 BW8 c8
            go_wp2_with fail
            go_roundw
            case rel => exact ⟨m + 1, fb, by omega, by go_num, rfl, HLV, F9, HBV⟩
            case measure => simp [intOf]; omega
        · obtain rfl : m = rs.length := by omega
          have UR := Lib.hid (UC.out.below (by rw [HC.out]; exact HBw.out))
          have HFA := Lib.hid (FB.all (by rw [KL.out]; exact HF.out) (by rw [KL.out]; exact hlt))
          have NW : Hid ((κ.length : Int) + 1 = if i + 1 = 0 then 1 else (kw : Int) + 1) := Lib.hid (by rw [if_neg (by omega), HKVi.out])
          cases hfb : fb with
          | false =>
            have HIN : Hid (kyAt kys i ∈ kys.take i) := Lib.hid (by
              refine Classical.byContradiction fun hn => ?_
              have := HFA.out.2 hn
              rw [hfb] at this; cases this)
            have M9 : Hid (madeTo kys (elL rs wd col) k (i + 1) = some (L.map (·.2.1))) := Lib.hid (by rw [made_skip HIN.out]; exact HM.out)
            clear hfb
            go_wp2_with fail
            refine cl.mono ?_
            rintro e w' ⟨rfl, rfl⟩
            clear cl
            go_wp2_with fail
            go_roundw
            case rel => exact ⟨i + 1, L, (κ.length : Int) + 1, by omega, by go_num, rfl, NW, UR, M9, BR⟩
            case measure => simp [intOf]; omega
          | true =>
            have HIN : Hid (¬ kyAt kys i ∈ kys.take i) := Lib.hid (HFA.out.1 hfb)
            clear hfb
            have hfin := HL.out
            rw [← KL.out, listTo_all] at hfin
            obtain ⟨la, lc, hle, hlr⟩ := row_of_owns hfin
            have HLL : Hid ((listOf kys (elL rs wd col) κ).length ≤ 1000) := Lib.hid (by rw [← listTo_all]; exact Nat.le_trans (listTo_len _ _ _ _) (by rw [KL.out]; exact hrs))
            have HLZ : Hid (InR (listOf kys (elL rs wd col) κ)) := Lib.hid (fun z hz => by
              unfold listOf at hz
              obtain ⟨j, hj, rfl⟩ := List.mem_map.1 hz
              exact at_mem HEZ.out j)
            have cm := made_is k la lc (listOf kys (elL rs wd col) κ) wr hlr HLL.out HLZ.out
            have K9 := Lib.hid (owns_keeps HKO.out (Keeps.of_below (N := fun _ => False) (by rw [HC.out]; exact HBw.out)) (fun _ _ h => h))
            rw [hle]
            have hD9 : D ≤ wr.heap.size := by have := HC.out; omega
            clear hfin hlr hle HL HF HLL HLZ
            cases hok : okOf (mkOf k (listOf kys (elL rs wd col) κ)) with
            | false =>
              rw [hok] at cm
              have HFN : Hid (madeTo kys (elL rs wd col) k rs.length = none) := Lib.hid (made_none (made_stop HIN.out (by rw [HKA.out]; exact (ok_none hok).1)) (by omega))
              clear hok
              go_wp2_with fail
              refine cl.mono ?_
              rintro e w' ⟨rfl, rfl⟩
              clear cl
              go_wp2_with fail
              refine cm.mono ?_
              rintro e w' ⟨rfl, rfl⟩
              clear cm
              go_wp2_with fail
              go_ret2
              exact .inl ⟨HFN.out, rfl, by rw [HB.out]; exact BR.out⟩
            | true =>
              rw [hok] at cm
              have HV := Lib.hid (ok_some hok)
              have M9 := Lib.hid (made_step HIN.out HM.out (by rw [HKA.out]; exact HV.out))
              rw [HKA.out] at M9
              clear hok HV
              generalize vOf (mkOf k (listOf kys (elL rs wd col) κ)) = y at *
              go_wp2_with fail
              refine cl.mono ?_
              rintro e w' ⟨rfl, rfl⟩
              clear cl
              go_wp2_with fail
              refine cm.mono ?_
              rintro e w' ⟨rfl, rfl⟩
              clear cm
              go_wp2_with (first | (at_builtin; refine wpList_append_own _ rfl _ _ 22 rfl D 2 i2 (.int .i64 0) 1 8 Tryd.underlying22 I'.out Z0'.out Z1'.out Z2'.out rfl (by decide) _ _ _ rfl (K9.out.alloc _) ⟨wr.heap.size, 0, none⟩ 1 1 [.int .i64 y] rfl rfl ?e1 ?e2 ?e3 ?e4 ?e5 ?_))
              case e1 => exact cell_one_new wr _ _
              case e2 => intro u hu; simp at hu; subst hu; rfl
              case e3 => unfold maxLen; omega
              case e4 => omega
              case e5 => simp; omega
              intro v' w10 hown' hgrow _
              have hown2 : w10.ownsRow D 2 1 v' (κ ++ [y]).length ((κ ++ [y]).map (Value.int .i64)) := by rw [List.map_append, List.length_append]; exact hown'
              obtain ⟨a10, c10, rfl, hr10, hc10, hf10⟩ := fresh_of_owns hown2
              have s10 : wr.heap.size + 1 ≤ w10.heap.size := by have := hgrow.size; simpa using this
              have KK : Keeps (fun b => wo.heap.size ≤ b) wr w10 := (((Keeps.refl (fun b => wo.heap.size ≤ b) wr).alloc _).trans (Keeps.of_grown hgrow (fun b hb => HKN.out b hb)))
              have U10 := Lib.hid (UR.out.keeps KK (fun b hb e => by have := HVM.out b hb; omega) (fun x hx p hp e => by have := HRM.out x hx p hp; omega))
              have B10 : Hid (Below B w w10) := Lib.hid (BR.out.trans (KK.below (by omega) (fun b e => by omega)))
              have R10 := Lib.hid hr10
              have F10 : Hid (∀ p, a10 = some p → p.block < w10.heap.size ∧ u10.ownBlock ≠ some p.block) := Lib.hid (fun p hp => ⟨(hf10 p hp).2, fun e => by have := HVM.out _ e; have := (hf10 p hp).1; omega⟩)
              obtain ⟨κ2, hκ2⟩ : ∃ κ2, κ ++ [y] = κ2 := ⟨_, rfl⟩
              rw [hκ2] at R10 hc10 M9 ⊢
              have hLl : L.length ≤ 1000 := by have h1 := madeR_len HM.out; rw [List.length_map] at h1; omega
              have hB10 : B ≤ w10.heap.size := by omega
              clear hown' hown2 hgrow hr10 hf10 hκ2 K9 HKN KK
              go_wp2_with (first | (at_builtin; refine wpList_append_own_at _ rfl _ _ 32 rfl B 22 i0 (.slice none 0 0) 1 24 Tryd.underlying32 I.out Z0.out Z1.out Z2.out rfl (by decide) _ _ _ rfl (U10.out.own.alloc _) ⟨w10.heap.size, 0, none⟩ 1 1 [.slice a10 κ2.length c10] rfl rfl ?f1 ?f2 ?f3 ?f4 ?f5 ?_))
              case f1 => exact cell_one_new w10 _ _
              case f2 => intro u hu; simp at hu; subst hu; rfl
              case f3 => unfold maxLen; omega
              case f4 => omega
              case f5 => simp; omega
              intro v2 w11 hown hgrow _ hat
              have U11 := Lib.hid (U10.out.push (x := (a10, κ2, c10)) R10.out hc10 F10.out hown hgrow (by simpa using hat))
              have B11 := Lib.hid (U10.out.belowW B10.out hB10 hgrow)
              clear hown hgrow hat
              go_wp2_with fail
              go_roundw
              case rel => exact ⟨i + 1, L ++ [(a10, κ2, c10)], (κ.length : Int) + 1, by omega, by go_num, rfl, NW, U11, Lib.hid (by rw [M9.out, List.map_append]; rfl), B11⟩
              case measure => simp [intOf]; omega
    · obtain rfl : i = rs.length := by omega
      have hLl : L.length ≤ 1000 := by have h1 := madeR_len HM.out; rw [List.length_map] at h1; omega
      obtain ⟨ua, uc, rfl, hRR⟩ := HU.out.rrow
      have hwt : wt = ((kw + 1 : Nat) : Int) := by rw [HWT.out, if_neg (by omega)]; omega
      rw [hwt]
      have wide : ∀ x ∈ L, x.2.1.length ≤ 1000000 := fun x hx => by
        obtain ⟨κ, hκ, v, e⟩ := madeR_rows (by rw [KL.out]; exact Nat.le_refl _) HM.out x.2.1 (List.mem_map_of_mem hx)
        obtain ⟨j, hj, e2⟩ := List.getElem_of_mem hκ
        have h5 := KV.out j (by rw [← KL.out]; exact hj)
        unfold kyAt at h5
        rw [List.getElem?_eq_getElem hj] at h5
        simp only [Option.getD_some] at h5
        rw [e, List.length_append, ← e2, h5]; simp; omega
      have cs := sorted_calls2 (kw + 1) ua uc L wo hRR (by omega) hLl wide
      clear hRR wide hwt HWT
      go_wp2_with fail
      refine cl.mono ?_
      rintro e w' ⟨rfl, rfl⟩
      clear cl
      go_wp2_with fail
      refine cs.mono ?_
      rintro e wz ⟨g, c9, L9, rfl, hl9, hr9, _, hb9⟩
      have R9 := Lib.hid (show LByRet w (kw + 1) (madeTo kys (elL rs wd col) k rs.length) (.returned (.tuple #[.slice (some ⟨g, 0, none⟩) L9.length c9, .bool true])) wz from .inr ⟨_, g, c9, L9, HM.out, rfl, hl9, hr9, by rw [HB.out]; exact HBe.out.trans (hb9.mono hBo)⟩)
      clear cs hl9 hr9 hb9
      go_wp2_with fail
      go_ret2
      exact R9.out
end Go.Proofs.YtcecndjkfdaaaaaDoor
