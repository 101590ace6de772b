import Derived.Test.YtepkmhcchmladaaSg4
import Derived.OwnWalk
/- Contract of segment's columns: the elements of rows, by position. -/
namespace Go.Proofs.Ytepkmhcchmladaa
open Go.RowKit
set_option linter.unusedVariables false
set_option linter.unusedSimpArgs false

set_option maxRecDepth 100000 in
set_option maxHeartbeats 4000000 in
theorem columns_calls (wd : Nat) (a : Option Addr) (cap : Nat) (L : List RV) (w : World) (hR : RRow w a L) (hwd : wd ≤ 1000) (hL : L.length ≤ 1000000) (hlen : ∀ x ∈ L, x.2.1.length = wd) :
    Calls Try.prog 48 #[.int .i64 wd, .slice a L.length cap] w (ColsRet w wd (L.map (·.2.1))) := by
  obtain ⟨i0, hi, hz0, hz1, hz2⟩ := info_parts info33
  obtain ⟨i1, hi', hz0', hz1', hz2'⟩ := info_parts info2
  have I := Lib.hid hi
  have Z0 := Lib.hid hz0
  have Z1 := Lib.hid hz1
  have Z2 := Lib.hid hz2
  have I' := Lib.hid hi'
  have Z0' := Lib.hid hz0'
  have Z1' := Lib.hid hz1'
  have Z2' := Lib.hid hz2'
  clear hi hz0 hz1 hz2 hi' hz0' hz1' hz2'
  obtain ⟨B, hB⟩ : ∃ B, w.heap.size = B := ⟨_, rfl⟩
  have HB := Lib.hid hB
  have HR := Lib.hid hR
  clear hB hR
  go_enter Try.func48, Try.ntmps48
  go_wp2_with (first | (refine wpList_make_full _ rfl (.tmp 9) (.tmp 9) 28 rfl B 33 i0 (.slice none 0 0) 1 Try.underlying28 I.out Z0.out Z1.out .i64 .i64 _ _ wd rfl rfl rfl rfl ?c1 ?c2 ?c3 ?_))
  case c1 => rw [Z2.out]; omega
  case c2 => unfold maxLen; omega
  case c3 => rw [HB.out]; exact Nat.le_refl _
  intro w1 hown hgrow
  rw [HB.out] at hown ⊢
  have M0 : Hid (ColsMid B w1 wd 0 (L.map (·.2.1)) []) := Lib.hid ⟨rfl, rfl, by rw [made_rows] at hown; exact hown, (fun x hx => by cases hx), (fun x hx => by cases hx)⟩
  have b1 : Hid (Below B w w1) := Lib.hid (grown_below hgrow (Nat.le_of_eq HB.out.symm))
  clear hown hgrow
  go_wp2_with fail
  go_loopw [13] (fun s wr => ∃ (k : Nat) (K : List RV), k ≤ wd ∧ s = .int .i64 k ∧ Hid (ColsMid B wr wd k (L.map (·.2.1)) K) ∧ Hid (Below B w wr)) (fun s _ => wd - (intOf s).toNat)
  case atStart => exact ⟨0, [], Nat.zero_le _, rfl, M0, b1⟩
  case round =>
    obtain ⟨k, K, hk, rfl, HM, HBe⟩ := hrel
    have hBr : B ≤ wr.heap.size := by have := HBe.out.size; rw [HB.out] at this; exact this
    have hgl : B < wr.heap.size := by
      rcases HM.out.own.2 with ⟨h0, _⟩ | ⟨g', cap', cur, hv, _, hh, _⟩
      · cases h0
      · cases hv; exact (Array.getElem?_eq_some_iff.1 hh).1
    by_cases hlt : k < wd
    · have dB := HM.out.own.cellAt k (by omega)
      have fB := HM.out.own.frozenAt k
      have hx : (K.map encV ++ List.replicate (wd - k) (Value.slice none 0 0))[k]? = some (.slice none 0 0) := by
        rw [List.getElem?_append_right (by simp [HM.out.len]), List.getElem?_replicate]
        simp [HM.out.len]; omega
      rw [hx] at dB
      clear hx
      go_wp2_with (first | (refine wpList_make_full _ rfl (.tmp 19) (.tmp 19) 33 rfl B 2 i1 (.int .i64 0) 1 Try.underlying33 I'.out Z0'.out Z1'.out .i64 .i64 _ _ L.length rfl rfl rfl rfl ?d1 ?d2 ?d3 ?_))
      case d1 => rw [Z2'.out]; omega
      case d2 => unfold maxLen; omega
      case d3 => exact hBr
      intro w2 hown hgrow
      obtain ⟨c, hc⟩ : ∃ c, wr.heap.size = c := ⟨_, rfl⟩
      rw [hc] at hown ⊢
      rw [made_ints, ← filled_zero (fun i => (atV L i).2.1[k]?.getD 0)] at hown
      have hg2 := hgrow.size
      have dB2 : w2.cell? ⟨B, k, none⟩ = some (.slice none 0 0) := (World.cell?_of_block (a := ⟨B, k, none⟩) (hgrow.block B hgl (by simp))).trans dB
      have fB2 : w2.frozen? ⟨B, k, none⟩ = false := by
        have := (HM.out.own.kept hgrow (.inr (by simp [Value.ownBlock]))).frozenAt k; exact this
      have O2 := Lib.hid (HM.out.own.kept hgrow (.inr (by simp [Value.ownBlock])))
      have KB : Hid (Below B wr w2) := Lib.hid (grown_below hgrow hBr)
      have HG := Lib.hid hgrow
      have HC := Lib.hid hown
      clear hown hgrow dB fB
      have HCn := Lib.hid hc
      have hBc : B < c := by omega
      have hBne : ¬ B = c := by omega
      have s2 : c < w2.heap.size := by
        rcases HC.out.2 with ⟨h0, _⟩ | ⟨g', cap', cur, hv, _, hh, _⟩
        · cases h0
        · cases hv; exact (Array.getElem?_eq_some_iff.1 hh).1
      have ST := Lib.hid (O2.out.stored k (.slice (some ⟨c, 0, none⟩) L.length L.length))
      have HC3 : Hid ((w2.setCell ⟨B, k, none⟩ (.slice (some ⟨c, 0, none⟩) L.length L.length)).ownsRow B 2 1 (.slice (some ⟨c, 0, none⟩) L.length L.length) L.length ((filled (fun i => (atV L i).2.1[k]?.getD 0) L.length 0).map (Value.int .i64))) :=
        Lib.hid (HC.out.kept ST.out.2 (.inr (by simp [Value.ownBlock]; omega)))
      have B3 : Hid (Below B w (w2.setCell ⟨B, k, none⟩ (.slice (some ⟨c, 0, none⟩) L.length L.length))) := Lib.hid ((HBe.out.trans KB.out).setCell (p := ⟨B, k, none⟩) (Nat.le_refl _) _)
      have R3 : Hid (∀ x ∈ K, Row (w2.setCell ⟨B, k, none⟩ (.slice (some ⟨c, 0, none⟩) L.length L.length)) x.1 x.2.1 ∧ (∀ p, x.1 = some p → B < p.block ∧ p.block < c)) := Lib.hid (fun x hx => by
        obtain ⟨h1, h2⟩ := HM.out.rows x hx
        have k1 : Keeps (fun b => b = B) wr (w2.setCell ⟨B, k, none⟩ (.slice (some ⟨c, 0, none⟩) L.length L.length)) := (Keeps.of_grown (N := fun b => b = B) HG.out (fun k hk => by cases hk)).setCell (p := ⟨B, k, none⟩) rfl _
        exact ⟨h1.keeps k1 (fun p hp e => by have := (h2 p hp).1; omega), fun p hp => by have := h2 p hp; rw [HCn.out] at this; exact this⟩)
      have sz3 : Hid (c < (w2.setCell ⟨B, k, none⟩ (.slice (some ⟨c, 0, none⟩) L.length L.length)).heap.size) := Lib.hid (by simp; exact s2)
      go_wp2_with fail
      have dB3 : (w2.setCell ⟨B, k, none⟩ (.slice (some ⟨c, 0, none⟩) L.length L.length)).cell? ⟨B, k, none⟩ = some (.slice (some ⟨c, 0, none⟩) L.length L.length) := World.cell?_setCell_same _ _ _ dB2
      have DB3 := Lib.hid dB3
      clear dB2 fB2 dB3 hg2 hc
      generalize hw3 : w2.setCell ⟨B, k, none⟩ (.slice (some ⟨c, 0, none⟩) L.length L.length) = w3 at *
      clear hw3
      go_loopw [24] (fun s wv => ∃ i : Nat, i ≤ L.length ∧ s = .int .i64 i ∧ Hid (wv.ownsRow B 2 1 (.slice (some ⟨c, 0, none⟩) L.length L.length) L.length ((filled (fun i => (atV L i).2.1[k]?.getD 0) L.length i).map (Value.int .i64))) ∧ Hid (Keeps (fun b => b = c) w3 wv)) (fun s _ => L.length - (intOf s).toNat)
      case atStart => exact ⟨0, Nat.zero_le _, rfl, HC3, Lib.hid (Keeps.refl _ _)⟩
      case round =>
        obtain ⟨i, hi, rfl, HOc, HKp⟩ := hrel
        have hBw3 : B ≤ w3.heap.size := by have := sz3.out; omega
        have HBv : Hid (Below B w wr) := Lib.hid (B3.out.trans (HKp.out.below hBw3 (fun b hb => by omega)))
        by_cases hil : i < L.length
        · obtain ⟨b1, off1, rfl, hb1, hc1, hr1, _⟩ := (HR.out.belowB HB.out HBv.out).at hil
          have hln := hlen _ (atV_mem hil)
          obtain ⟨b2, off2, hb2a, hb2, hc2⟩ := hr1.at (k := k) (by rw [hln]; exact hlt)
          have cB : wr.cell? ⟨B, k, none⟩ = some (.slice (some ⟨c, 0, none⟩) L.length L.length) := (World.cell?_of_block (a := ⟨B, k, none⟩) (HKp.out.block B (by have := sz3.out; omega) (by omega))).trans DB3.out
          rw [hb2a, hln] at hc1
          obtain ⟨y, hy⟩ : ∃ y, (filled (fun i => (atV L i).2.1[k]?.getD 0) L.length i)[i]? = some y := ⟨_, List.getElem?_eq_getElem (by rw [filled_len]; exact hil)⟩
          have cc : wr.cell? ⟨c, i, none⟩ = some (.int .i64 y) := (HOc.out.cellAt i (by omega)).trans (by rw [List.getElem?_map, hy]; rfl)
          have fc := HOc.out.frozenAt i
          have SS := Lib.hid (HOc.out.stored i (.int .i64 ((atV L i).2.1[k]?.getD 0)))
          have hst : Hid ((wr.setCell ⟨c, i, none⟩ (.int .i64 ((atV L i).2.1[k]?.getD 0))).ownsRow B 2 1 (.slice (some ⟨c, 0, none⟩) L.length L.length) L.length ((filled (fun i => (atV L i).2.1[k]?.getD 0) L.length (i + 1)).map (Value.int .i64))) := Lib.hid (by
            have := SS.out.1
            rw [← List.map_set, filled_set (fun i => (atV L i).2.1[k]?.getD 0) L.length i hil] at this
            exact this)
          have hkp : Hid (Keeps (fun b => b = c) w3 (wr.setCell ⟨c, i, none⟩ (.int .i64 ((atV L i).2.1[k]?.getD 0)))) := Lib.hid (HKp.out.setCell (p := ⟨c, i, none⟩) rfl _)
          clear hr1 hln hb2a hy SS
          generalize (atV L i).2.1[k]?.getD 0 = z at *
          generalize (atV L i).2.2 = cz at *
          have q1 : (i : Int) < (L.length : Int) := by omega
          have q2 : (0 : Int) ≤ (i : Int) := by omega
          have q3 : (k : Int) < (wd : Int) := by omega
          have q4 : (0 : Int) ≤ (k : Int) := by omega
          go_wp2_with fail
          go_region
          go_wp2_with fail
          go_roundw
          case rel => exact ⟨i + 1, by omega, by go_num, Lib.hid hst.out, Lib.hid ⟨hkp.out.os, hkp.out.tape, hkp.out.output, hkp.out.size, hkp.out.block⟩⟩
          case measure => simp [intOf]; omega
        · obtain rfl : i = L.length := by omega
          have hfin := HOc.out
          rw [filled_col] at hfin
          obtain ⟨a9, c9, ha9, hrow⟩ := row_of_owns hfin
          simp only [Value.slice.injEq] at ha9
          obtain ⟨rfl, hl9, rfl⟩ := ha9
          have N9 : Hid (ColsMid B wr wd (k + 1) (L.map (·.2.1)) (K ++ [(some ⟨c, 0, none⟩, colOf (L.map (·.2.1)) k, L.length)])) := by
            refine Lib.hid ⟨by simp [HM.out.len], by rw [List.map_append, HM.out.cont, colsOf_take hlt]; rfl, ?_, ?_, ?_⟩
            · have h1 := owns_keeps (N := fun b => b = c) ST.out.1 HKp.out (fun b hb e => by simp [Value.ownBlock] at hb; omega)
              rw [set_at (by simp [HM.out.len]) (by omega), Nat.sub_sub] at h1
              rw [List.map_append]
              have e9 : [(some ⟨c, 0, none⟩, colOf (L.map (·.2.1)) k, L.length)].map encV = [Value.slice (some ⟨c, 0, none⟩) L.length L.length] := by
                simp [encV, colOf_len]
              rw [e9]; exact h1
            · intro x hx
              have hsz := HKp.out.size
              have := sz3.out
              rcases List.mem_append.1 hx with hx | hx
              · obtain ⟨h1, h2⟩ := R3.out x hx
                exact ⟨h1.keeps HKp.out (fun p hp e => by have := (h2 p hp).2; omega), fun p hp => ⟨(h2 p hp).1, by have := (h2 p hp).2; omega⟩⟩
              · rw [List.mem_singleton] at hx
                subst hx
                refine ⟨hrow, fun p hp => ?_⟩
                cases hp
                exact ⟨by show B < c; omega, by show c < wr.heap.size; omega⟩
            · intro x hx
              rcases List.mem_append.1 hx with hx | hx
              · exact HM.out.caps x hx
              · rw [List.mem_singleton] at hx
                subst hx
                show (colOf (L.map (·.2.1)) k).length ≤ L.length
                simp [colOf]
          clear hfin hrow hl9
          go_wp2_with fail
          go_roundw
          case rel => exact ⟨k + 1, _, by omega, by go_num, N9, HBv⟩
          case measure => simp [intOf]; omega
    · obtain rfl : k = wd := by omega
      have HC : Hid (K.map (·.2.1) = colsOf k (L.map (·.2.1))) := Lib.hid (by rw [HM.out.cont]; exact List.take_of_length_le (by simp [colsOf]))
      have ho := HM.out.own
      rw [Nat.sub_self, List.replicate_zero, List.append_nil] at ho
      have hrr : ∀ W, Later B wr W → RRow W (some ⟨B, 0, none⟩) K := fun W hl => by
        obtain ⟨a1, c1, ha1, hrow⟩ := rrow_later ho (fun x hx => ⟨⟨(HM.out.rows x hx).1, HM.out.caps x hx⟩, fun p hp => Nat.le_of_lt ((HM.out.rows x hx).2 p hp).1⟩) hl
        simp only [Value.slice.injEq] at ha1
        rw [ha1.1]; exact hrow
      have HRw := Lib.hid hrr
      clear hrr ho
      go_wp2_with fail
      go_ret
      exact ⟨_, _, K, rfl, HC.out, fun W hl => HRw.out W (by rw [← HB.out]; exact hl), by rw [HB.out]; exact HBe.out⟩
end Go.Proofs.Ytepkmhcchmladaa
