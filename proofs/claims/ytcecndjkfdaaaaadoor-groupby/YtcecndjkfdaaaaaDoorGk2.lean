/- The statements' own Key told with the row that it makes. Written from Ul. -/
import Derived.Test.YtcecndjkfdaaaaaDoorGk
namespace Go.Proofs.YtcecndjkfdaaaaaDoor
open Go.RowKit
set_option linter.unusedVariables false
set_option linter.unusedSimpArgs false

set_option maxRecDepth 100000 in
set_option maxHeartbeats 2000000 in
theorem lawKeyO_calls (a b : Option Addr) (ca cb : Nat) (row keys : List Int) (w : World) (ha : Row w a row) (hb : Row w b keys) (hr : row.length ≤ 1000000) (hk : keys.length ≤ 1000000) :
    Calls Tryd.prog 34 #[.slice a row.length ca, .slice b keys.length cb] w (OwnRet w (keyL row keys)) := by
  obtain ⟨i1, hi', hz0', hz1', hz2'⟩ := info_parts info2
  have I' := Lib.hid hi'
  have Z0' := Lib.hid hz0'
  have Z1' := Lib.hid hz1'
  have Z2' := Lib.hid hz2'
  clear hi' hz0' hz1' hz2'
  obtain ⟨B, hB⟩ : ∃ B, w.heap.size = B := ⟨_, rfl⟩
  have HB := Lib.hid hB
  have HA := Lib.hid ha
  have HK := Lib.hid hb
  clear hB ha hb
  go_enter Tryd.func34, Tryd.ntmps34
  go_wp2_with fail
  have O1 : Hid ((w.alloc (.cells #[] 2)).ownsRow B 2 1 (.slice (some ⟨w.heap.size, 0, none⟩) 0 0) 0 []) := Lib.hid (World.ownsRow_lit (base := B) (e := 2) (size := 1) w #[] 0 (Nat.le_of_eq HB.out.symm) (by decide) rfl)
  have B1 := Lib.hid ((Below.refl B w).alloc (Nat.le_of_eq HB.out.symm) (.cells #[] 2))
  generalize World.alloc w _ = w1 at *
  generalize Value.slice (some ⟨w.heap.size, 0, none⟩) 0 0 = v1 at *
  go_loopw [11, 5] (fun s v wr => ∃ k : Nat, k ≤ keys.length ∧ s = .int .i64 k ∧ Hid (wr.ownsRow B 2 1 v (keyL row (keys.take k)).length ((keyL row (keys.take k)).map (Value.int .i64))) ∧ Hid (Below B w wr)) (fun s _ _ => keys.length - (intOf s).toNat)
  case atStart => exact ⟨0, Nat.zero_le _, rfl, O1, B1⟩
  case round =>
    obtain ⟨k, hk', rfl, HO, HBe⟩ := hrel
    have hBr : B ≤ wr.heap.size := by have := HBe.out.size; rw [HB.out] at this; exact this
    have hll : (keyL row (keys.take k)).length ≤ 1000000 := by have := keyL_len row (keys.take k); simp at this; omega
    by_cases hlt : k < keys.length
    · obtain ⟨b2, off2, rfl, hb2, hc2⟩ := (HK.out.belowB HB.out HBe.out).at hlt
      have ST := Lib.hid (keyL_take (row := row) hlt)
      generalize keys[k]?.getD 0 = z at *
      obtain ⟨L, hL⟩ : ∃ L, keyL row (keys.take k) = L := ⟨_, rfl⟩
      rw [hL] at HO ST hll
      clear hL
      by_cases h0 : 0 ≤ z ∧ z < (row.length : Int)
      · obtain ⟨j, rfl⟩ : ∃ j : Nat, z = j := ⟨z.toNat, by omega⟩
        have hj : j < row.length := by omega
        obtain ⟨b3, off3, rfl, hb3, hc3⟩ := (HA.out.belowB HB.out HBe.out).at hj
        have S2 : Hid (keyL row (keys.take (k + 1)) = L ++ [row[j]?.getD 0]) := Lib.hid (by rw [ST.out, if_pos h0]; rfl)
        generalize row[j]?.getD 0 = y at *
        clear ST h0
        have t1 : decide ((0 : Int) ≤ (j : Int)) = true := decide_eq_true (by omega)
        have t2 : decide ((j : Int) < (row.length : Int)) = true := decide_eq_true (by omega)
        go_wp2_with (first | (at_builtin; refine wpList_append_own _ rfl _ _ 22 rfl B 2 i1 (.int .i64 0) 1 8 Tryd.underlying22 I'.out Z0'.out Z1'.out Z2'.out rfl (by decide) _ _ _ rfl (HO.out.alloc _) ⟨wr.heap.size, 0, none⟩ 1 1 [.int .i64 y] rfl rfl ?c1 ?c2 ?c3 ?c4 ?c5 ?_))
        case c1 => exact cell_one_new wr _ _
        case c2 => intro u hu; simp at hu; subst hu; rfl
        case c3 => unfold maxLen; omega
        case c4 => omega
        case c5 => simp; omega
        intro v' w2 hown' hgrow _
        have R := app_step hBr HBe.out HO.out hown' hgrow
        have O2 := Lib.hid R.1
        have B2 := Lib.hid R.2
        rw [← S2.out] at O2
        clear hown' hgrow R hc2 hc3
        go_wp2_with fail
        go_roundw
        case rel => exact ⟨k + 1, by omega, by go_num, O2, B2⟩
        case measure => simp [intOf]; omega
      · have S2 : Hid (keyL row (keys.take (k + 1)) = L) := Lib.hid (by rw [ST.out, if_neg h0])
        have HO2 := HO
        rw [← S2.out] at HO2
        clear ST
        by_cases hz : 0 ≤ z
        · have t1 : decide ((0 : Int) ≤ z) = true := decide_eq_true hz
          have t2 : decide (z < (row.length : Int)) = false := decide_eq_false (by omega)
          clear h0
          go_wp2_with fail
          go_roundw
          case rel => exact ⟨k + 1, by omega, by go_num, HO2, HBe⟩
          case measure => simp [intOf]; omega
        · have t1 : decide ((0 : Int) ≤ z) = false := decide_eq_false hz
          clear h0 hz
          go_wp2_with fail
          go_roundw
          case rel => exact ⟨k + 1, by omega, by go_num, HO2, HBe⟩
          case measure => simp [intOf]; omega
    · have hfin := HO.out
      rw [List.take_of_length_le (by omega)] at hfin
      have HFn := Lib.hid hfin
      clear hfin HO
      go_wp2_with fail
      go_ret
      exact ⟨_, rfl, by rw [HB.out]; exact HFn.out, by rw [HB.out]; exact HBe.out⟩
end Go.Proofs.YtcecndjkfdaaaaaDoor
