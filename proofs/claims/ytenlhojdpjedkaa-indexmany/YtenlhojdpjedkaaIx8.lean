/- An index as a whole: Probe, Len; the law's own probe, and its head. -/
import Derived.Test.YtenlhojdpjedkaaIx7
namespace Go.Proofs.Ytenlhojdpjedkaa
open Go.RowKit
set_option linter.unusedVariables false
set_option linter.unusedSimpArgs false

theorem Ix.below {w w' : World} {g : Nat} {kys : List (List Int)} (h : Ix w g kys) (hb : Below w.heap.size w w') : Ix w' g kys := by
  obtain ⟨K, sl, nx, cnt, M, n, h1, h2⟩ := h
  exact ⟨K, sl, nx, cnt, M, n, h1.below hb, h2⟩
theorem Ix.belowB {w w' : World} {B g : Nat} {kys : List (List Int)} (h : Ix w g kys) (hB : w.heap.size = B) (hb : Below B w w') : Ix w' g kys := by subst hB; exact h.below hb
theorem Ix.len {w : World} {g : Nat} {kys : List (List Int)} (h : Ix w g kys) : kys.length ≤ 1000 := by
  obtain ⟨K, sl, nx, cnt, M, n, h1, h2, h3, h4, h5, h6, h7⟩ := h
  rw [← h5, keysC_len]; exact h7
theorem ix_probe {w : World} {g : Nat} {kys : List (List Int)} (h : Ix w g kys) (ka : Option Addr) (kc : Nat) (κ : List Int) (hκ : Row w ka κ) (hκl : κ.length ≤ 1000000) :
    Calls Try.prog 23 #[.pointer (some ⟨g, 0, none⟩), .slice ka κ.length kc] w (RowRet w (ints (rowsOf kys κ))) := by
  obtain ⟨K, sl, nx, cnt, M, n, h1, h2, h3, h4, h5, h6, h7⟩ := h
  have := probe_calls h1 h2 h3 h4 ka kc κ hκ hκl (by omega) (by omega)
  rw [h5] at this; exact this
theorem ix_len {w : World} {g : Nat} {kys : List (List Int)} (h : Ix w g kys) : Calls Try.prog 22 #[.pointer (some ⟨g, 0, none⟩)] w fun e w' => e = .returned (.int .i64 (dst kys)) ∧ w = w' := by
  obtain ⟨K, sl, nx, cnt, M, n, ⟨ca, cc, sa, sc, na, nc, hg, _⟩, h2, h3, h4, h5, h6, h7⟩ := h
  have hd := h3.diff
  rw [h5, List.drop_zero] at hd
  have c3 := (ixCells hg).2.2.2
  rw [hd] at c3
  clear hg h2 h3 h4 h5 hd
  go_enter Try.func22, Try.ntmps22
  go_wp2_with fail
  go_ret
  exact ⟨rfl, rfl⟩

theorem rowsTo_more {kys : List (List Int)} {κ : List Int} {i : Nat} (hk : kyAt kys i = κ) : ∀ m, i < m → ∃ t, rowsTo kys κ m = rowsTo kys κ i ++ i :: t := by
  intro m
  induction m with
  | zero => intro h; omega
  | succ m ih =>
    intro h
    by_cases e : i = m
    · subst e; exact ⟨[], rowsTo_hit hk⟩
    · obtain ⟨t, ht⟩ := ih (by omega)
      by_cases hm : kyAt kys m = κ
      · exact ⟨t ++ [m], by rw [rowsTo_hit hm, ht]; simp⟩
      · exact ⟨t, by rw [rowsTo_skip (m := m) (by omega) (fun j h1 h2 => (show j = m by omega) ▸ hm), ht]⟩
theorem rowsOf_at {kys : List (List Int)} {κ : List Int} {i : Nat} (hi : i < kys.length) (hk : kyAt kys i = κ) : (rowsTo kys κ i).length < (ints (rowsOf kys κ)).length ∧ (ints (rowsOf kys κ))[(rowsTo kys κ i).length]?.getD 0 = (i : Int) := by
  obtain ⟨t, ht⟩ := rowsTo_more hk _ hi
  rw [ints_len, rowsOf, ht]
  simp [ints]
theorem rowsTo_step_no {kys : List (List Int)} {κ : List Int} {i : Nat} (hk : ¬ kyAt kys i = κ) : rowsTo kys κ (i + 1) = rowsTo kys κ i :=
  rowsTo_skip (by omega) (fun j h1 h2 => (show j = i by omega) ▸ hk)
theorem kyAt_map {rs : List (List Int)} {keys : List Int} {i : Nat} (h : i < rs.length) : kyAt (rs.map fun r => keyL r keys) i = keyL (rowAt rs i) keys := by
  simp [kyAt, rowAt, h]

set_option maxRecDepth 100000 in
set_option maxHeartbeats 2000000 in
theorem lawProbe_calls {w : World} {g : Nat} {p : Option Addr} {wd : Nat} {rs : List (List Int)} {keys : List Int} (hX : Ix w g (rs.map fun r => keyL r keys)) (hS : Seg w p wd rs) (ka : Option Addr) (kc : Nat) (hKy : Row w ka keys) (qa : Option Addr) (qc : Nat) (κ : List Int) (hκ : Row w qa κ) (hκl : κ.length ≤ 1000000) (hkl : keys.length ≤ 1000) (hwd : wd ≤ 1000) (hrs : rs.length ≤ 1000) :
    Calls Try.prog 21 #[.pointer (some ⟨g, 0, none⟩), .pointer p, .slice ka keys.length kc, .slice qa κ.length qc] w (TrueRet5 w) := by
  obtain ⟨B, hB⟩ : ∃ B, w.heap.size = B := ⟨_, rfl⟩
  have HB := Lib.hid hB
  have cp := ix_probe hX qa qc κ hκ hκl
  have hgl : (ints (rowsOf (rs.map fun r => keyL r keys) κ)).length ≤ 1000 := by
    rw [ints_len]; have := rowsTo_len (rs.map fun r => keyL r keys) κ (rs.map fun r => keyL r keys).length; simp only [rowsOf]; simp at this ⊢; omega
  have KA : Hid (∀ i, i < rs.length → kyAt (rs.map fun r => keyL r keys) i = keyL (rowAt rs i) keys) := Lib.hid (fun i hi => kyAt_map hi)
  have LN : Hid ((rs.map fun r => keyL r keys).length = rs.length) := Lib.hid (by simp)
  have HS := Lib.hid hS
  have HK := Lib.hid hKy
  have HQ := Lib.hid hκ
  generalize (rs.map fun r => keyL r keys) = kys at *
  clear hX hS hKy hκ hB
  go_enter Try.func21, Try.ntmps21
  go_wp2_with fail
  refine cp.mono ?_
  rintro e w1 ⟨ga, gc, rfl, hg1, hb1⟩
  have G1 := Lib.hid hg1
  have B1 : Hid (Below B w w1) := Lib.hid (by rw [HB.out] at hb1; exact hb1)
  have GE : Hid (∀ i, i < kys.length → kyAt kys i = κ → (rowsTo kys κ i).length < (ints (rowsOf kys κ)).length ∧ (ints (rowsOf kys κ))[(rowsTo kys κ i).length]?.getD 0 = (i : Int)) := Lib.hid (fun i hi hk => rowsOf_at hi hk)
  have GL : Hid ((ints (rowsOf kys κ)).length = (rowsTo kys κ kys.length).length) := Lib.hid (by rw [ints_len]; rfl)
  generalize ints (rowsOf kys κ) = G at *
  clear hg1 hb1 cp
  go_wp2_with fail
  go_loopw [11, 10] (fun s t wr => ∃ i c : Nat, i ≤ rs.length ∧ s = .int .i64 i ∧ t = .int .i64 c ∧ c ≤ i ∧ Hid (c = (rowsTo kys κ i).length) ∧ Hid (Below B w wr) ∧ Hid (Below w1.heap.size w1 wr)) (fun s _ _ => rs.length - (intOf s).toNat)
  case atStart => exact ⟨0, 0, Nat.zero_le _, rfl, rfl, Nat.le_refl _, Lib.hid rfl, B1, Lib.hid (Below.refl _ _)⟩
  case round =>
    obtain ⟨i, c, hi, rfl, rfl, hci, HC, HBr, HB1⟩ := hrel
    have cl := segLen_calls (HS.out.belowB HB.out HBr.out)
    have hBr : Hid (B ≤ wr.heap.size) := Lib.hid (by have := HBr.out.size; rw [HB.out] at this; exact this)
    by_cases hlt : i < rs.length
    · have cr := segRow_calls (HS.out.belowB HB.out HBr.out) i hlt hwd (by omega)
      have HL := Lib.hid (HS.out.2.1 _ (rowAt_mem hlt))
      go_wp2_with fail
      refine cl.mono ?_
      rintro e w' ⟨rfl, rfl⟩
      clear cl
      go_wp2_with fail
      refine cr.mono ?_
      rintro e w3 ⟨ra, rc, rfl, hr3, _, hb3⟩
      have B3 : Hid (Below B w w3) := Lib.hid (HBr.out.trans (hb3.mono hBr.out))
      have ck := lawKey_calls ra ka rc kc (rowAt rs i) keys w3 hr3 (HK.out.belowB HB.out B3.out) (by rw [HL.out]; omega) (by omega)
      have S3 : Hid (Below wr.heap.size wr w3) := Lib.hid hb3
      clear cr hr3 hb3
      go_wp2_with fail
      refine ck.mono ?_
      rintro e w4 ⟨ya, yc, rfl, hr4, _, hb4⟩
      have B4 : Hid (Below B w w4) := Lib.hid (B3.out.trans (hb4.mono (by have := B3.out.size; rw [HB.out] at this; exact this)))
      have S4 : Hid (Below wr.heap.size wr w4) := Lib.hid (S3.out.trans (hb4.mono S3.out.size))
      have hkeyl := keyL_len (rowAt rs i) keys
      have cc := lawCompare_calls ya qa yc qc (keyL (rowAt rs i) keys) κ w4 hr4 (HQ.out.belowB HB.out B4.out) (by omega) hκl
      have KI := Lib.hid (KA.out i hlt)
      clear ck hr4 hb4 hkeyl S3 B3
      by_cases he : keyL (rowAt rs i) keys = κ
      · rw [he, cmpR_self] at cc
        rw [he] at KI
        have G2 := Lib.hid (GE.out i (by rw [LN.out]; exact hlt) KI.out)
        have hc1 : c < G.length := by rw [HC.out]; exact G2.out.1
        obtain ⟨gb, go, rfl, hgb, hgc⟩ := (G1.out.below (HB1.out.trans (S4.out.mono HB1.out.size))).at hc1
        have hv : G[c]?.getD 0 = (i : Int) := by rw [HC.out]; exact G2.out.2
        rw [hv] at hgc
        clear hv
        rw [he]
        go_wp2_with fail
        refine cc.mono ?_
        rintro e w5 ⟨rfl, q, rfl⟩
        have hgc' : (w4.drewN q).cell? ⟨gb, go + c, none⟩ = some (.int .i64 i) := hgc
        have t1 : decide ((G.length : Int) ≤ (c : Int)) = false := decide_eq_false (by omega)
        have t2 : decide (G.length ≤ c) = false := decide_eq_false (by omega)
        have B5 : Hid (Below B w (w4.drewN q)) := Lib.hid (below_drewN B4.out q)
        have S5 : Hid (Below w1.heap.size w1 (w4.drewN q)) := Lib.hid (below_drewN (HB1.out.trans (S4.out.mono HB1.out.size)) q)
        have C5 : Hid (c + 1 = (rowsTo kys κ (i + 1)).length) := Lib.hid (by rw [rowsTo_hit KI.out, List.length_append, ← HC.out]; rfl)
        generalize w4.drewN q = w5 at *
        clear hgc cc he
        go_wp2_with fail
        go_roundw
        case rel => exact ⟨i + 1, c + 1, by omega, by go_num, by go_num, by omega, C5, B5, S5⟩
        case measure => simp [intOf]; omega
      · have t1 : (cmpR (keyL (rowAt rs i) keys) κ != 0) = true := by
          simp only [bne_iff_ne, ne_eq]
          exact fun h0 => he (cmpR_eq h0)
        have NK : Hid (¬ kyAt kys i = κ) := Lib.hid (by rw [KI.out]; exact he)
        clear he
        generalize cmpR (keyL (rowAt rs i) keys) κ = cv at *
        go_wp2_with fail
        refine cc.mono ?_
        rintro e w5 ⟨rfl, q, rfl⟩
        have B5 : Hid (Below B w (w4.drewN q)) := Lib.hid (below_drewN B4.out q)
        have S5 : Hid (Below w1.heap.size w1 (w4.drewN q)) := Lib.hid (below_drewN (HB1.out.trans (S4.out.mono HB1.out.size)) q)
        have C5 : Hid (c = (rowsTo kys κ (i + 1)).length) := Lib.hid (by rw [rowsTo_step_no NK.out]; exact HC.out)
        generalize w4.drewN q = w5 at *
        clear cc
        go_wp2_with fail
        go_roundw
        case rel => exact ⟨i + 1, c, by omega, by go_num, rfl, by omega, C5, B5, S5⟩
        case measure => simp [intOf]; omega
    · have E : c = G.length := by rw [HC.out, GL.out, LN.out, show i = rs.length by omega]
      have t1 : ((c : Int) == (G.length : Int)) = true := by rw [E]; simp
      have tn : decide (i < rs.length) = false := decide_eq_false hlt
      clear E
      go_wp2_with fail
      refine cl.mono ?_
      rintro e w' ⟨rfl, rfl⟩
      go_wp2_with fail
      go_ret
      exact ⟨rfl, by rw [HB.out]; exact HBr.out⟩
end Go.Proofs.Ytenlhojdpjedkaa
