/- LexJoins, walked: two texts without fault. -/
import Derived.Test.YtecijhaclbbccaaDoorLxT
namespace Go.Proofs.YtecijhaclbbccaaDoor
open Go.RowKit
set_option linter.unusedVariables false
set_option linter.unusedSimpArgs false

set_option maxRecDepth 100000 in
set_option maxHeartbeats 1000000 in
theorem lexJoins_ok (a b : ByteArray) (w : World) (ht : SignTab w) (hg : ErrType w) (ha : a.size ≤ 200) (hb : b.size ≤ 200) {x y z : List Tk} (hx0 : 0 < x.length) (hy0 : 0 < y.length) (hz : z.length + 1 = x.length + y.length) (hxl : x.length ≤ 1000) (hyl : y.length ≤ 1000) (hy3 : ∀ i, i < y.length → 0 ≤ (tkAt y i).at' ∧ (tkAt y i).at' ≤ 1000) (hz1 : ∀ i, i + 1 < x.length → tkAt z i = tkAt x i) (hz2 : ∀ i, i < y.length → tkAt z (x.length - 1 + i) = (tkAt y i).up (a.size + 1)) (hA : allM (bs a) = .ok x) (hBd : allM (bs b) = .ok y) (hJ : allM (bs (a ++ ⟨#[10]⟩ ++ b)) = .ok z) : Calls Tryd.prog 7 #[.string a, .string b] w (TrueRet w) := by
  have ch := head12_calls w ht
  have HT := Lib.hid ht
  have HE := Lib.hid hg
  clear ht hg
  obtain ⟨B, hB⟩ : ∃ B, w.heap.size = B := ⟨_, rfl⟩
  have HB := Lib.hid hB
  clear hB
  have t1 : decide ((200 : Int) < (a.size : Int)) = false := decide_eq_false (by omega)
  have t2 : decide ((200 : Int) < (b.size : Int)) = false := decide_eq_false (by omega)
  have hj : (a ++ ⟨#[10]⟩ : ByteArray).size ≤ 201 := by rw [ByteArray.size_append]; show a.size + 1 ≤ 201; omega
  have hjj : (a ++ ⟨#[10]⟩ ++ b : ByteArray).size ≤ 401 := by rw [ByteArray.size_append]; omega
  have HA := Lib.hid hA
  have HBd := Lib.hid hBd
  have HJ := Lib.hid hJ
  clear hA hBd hJ
  go_enter Tryd.func7, Tryd.ntmps7
  go_wp2_with fail
  refine ch.mono ?_
  rintro e w1 ⟨rfl, hb1⟩
  rw [HB.out] at hb1
  have B1 := Lib.hid hb1
  have s1 : B ≤ w1.heap.size := by have := hb1.size; rw [HB.out] at this; exact this
  clear hb1 ch
  go_wp2_with fail
  have c2 := all_calls a w1 (by omega) (HT.out.below (by rw [HB.out]; exact B1.out))
  rw [HA.out] at c2
  refine c2.mono ?_
  rintro e w2 ⟨hb2, a2, cap2, rfl, hr2⟩
  have B2 : Hid (Below B w w2) := Lib.hid (B1.out.trans (hb2.mono s1))
  have s2 : B ≤ w2.heap.size := by have := hb2.size; omega
  have R2 := Lib.hid hr2
  have b23 := Lib.hid hb2
  clear hb2 hr2 c2
  go_wp2_with fail
  have c3 := all_calls b w2 (by omega) (HT.out.below (by rw [HB.out]; exact B2.out))
  rw [HBd.out] at c3
  refine c3.mono ?_
  rintro e w3 ⟨hb3, a3, cap3, rfl, hr3⟩
  have B3 : Hid (Below B w w3) := Lib.hid (B2.out.trans (hb3.mono s2))
  have s3 : B ≤ w3.heap.size := by have := hb3.size; omega
  have R23 : Hid (TRow w3 a2 x) := Lib.hid (R2.out.below hb3)
  have R3 := Lib.hid hr3
  clear hb3 c3 hr3 R2 b23
  go_wp2_with fail
  have c4 := all_calls (a ++ ⟨#[10]⟩ ++ b) w3 (by omega) (HT.out.below (by rw [HB.out]; exact B3.out))
  rw [HJ.out] at c4
  refine c4.mono ?_
  rintro e w4 ⟨hb4, a4, cap4, rfl, hr4⟩
  have B4 : Hid (Below B w w4) := Lib.hid (B3.out.trans (hb4.mono s3))
  have hB4 : B ≤ w4.heap.size := by have := hb4.size; omega
  have HE4 : Hid (ErrType w4) := Lib.hid (HE.out.ext (by show Below _ _ _; rw [HB.out]; exact B4.out))
  have R24 : Hid (TRow w4 a2 x) := Lib.hid (R23.out.below hb4)
  have R34 : Hid (TRow w4 a3 y) := Lib.hid (R3.out.below hb4)
  have R4 := Lib.hid hr4
  clear hb4 c4 hr4 R23 R3
  rcases R24.out with h | ⟨gx, rfl, hgx, hcx⟩
  · rw [h] at hx0; simp at hx0
  rcases R34.out with h | ⟨gy, rfl, hgy, hcy⟩
  · rw [h] at hy0; simp at hy0
  rcases R4.out with h | ⟨gz, rfl, hgz, hcz⟩
  · rw [h] at hz; simp at hz; omega
  have CX := Lib.hid hcx
  have CY := Lib.hid hcy
  have CZ := Lib.hid hcz
  have Z1 := Lib.hid hz1
  have Y3 := Lib.hid hy3
  clear hy3
  have Z2 := Lib.hid hz2
  clear hcx hcy hcz hz1 hz2 R24 R34 R4
  obtain ⟨D, hD⟩ : ∃ D, w4.heap.size = D := ⟨_, rfl⟩
  rw [hD] at hgx hgy hgz hB4
  have HD := Lib.hid hD
  clear hD
  have tz : ((z.length : Int) == (x.length : Int) + (y.length : Int) - 1) = true := by rw [beq_iff_eq]; omega
  have ez : (x.length : Int) + (y.length : Int) - 1 = (z.length : Int) := by omega
  go_wp2_with fail
  go_loopw [81] (fun i wr => ∃ k : Nat, k ≤ z.length ∧ i = .int .i64 k ∧ Hid (Below D w4 wr)) (fun i _ => z.length - (intOf i).toNat)
  case atStart => exact ⟨0, Nat.zero_le _, rfl, Lib.hid (Below.refl _ _)⟩
  case round =>
    obtain ⟨k, hk, rfl, HBe⟩ := hrel
    have hDr : D ≤ wr.heap.size := by have := HBe.out.size; rw [HD.out] at this; exact this
    by_cases hlt : k < z.length
    · obtain ⟨c0, c1, c2, c3⟩ := CZ.out k hlt
      have cl := fun {o : Nat} {v : Value} (h : w4.cell? ⟨gz, o, none⟩ = some v) => (HBe.out.cell (p := ⟨gz, o, none⟩) hgz).trans h
      have d0 := cl c0
      have d1 := cl c1
      have d2 := cl c2
      have d3 := cl c3
      clear cl c0 c1 c2 c3
      have hzw : gz < wr.heap.size := by omega
      have hxw : gx < wr.heap.size := by omega
      have hyw : gy < wr.heap.size := by omega
      by_cases hf : k + 1 < x.length
      · obtain ⟨c0, c1, c2, c3⟩ := CX.out k (by omega)
        have cl := fun {o : Nat} {v : Value} (h : w4.cell? ⟨gx, o, none⟩ = some v) => (HBe.out.cell (p := ⟨gx, o, none⟩) hgx).trans h
        have f0 := cl c0
        have f1 := cl c1
        have f2 := cl c2
        have f3 := cl c3
        clear cl c0 c1 c2 c3
        rw [Z1.out k hf] at d0 d1 d2 d3
        have tf : decide ((k : Int) < (x.length : Int) - 1) = true := decide_eq_true (by omega)
        generalize (tkAt x k).kind = kd at *
        generalize (tkAt x k).text = tx at *
        generalize (tkAt x k).num = nm at *
        generalize (tkAt x k).at' = pc at *
        have hkx : (k : Int) < (x.length : Int) := by omega
        have hkx2 : k < x.length := by omega
        have hk0 : (0 : Int) ≤ (k : Int) := by omega
        clear hf
        have BA : Hid (∀ c1 c2, Below D w4 ((wr.alloc c1).alloc c2)) := Lib.hid (fun c1 c2 => (HBe.out.alloc hDr c1).alloc (by simp; omega) c2)
        go_wp2_with fail
        go_roundw
        case rel => exact ⟨k + 1, by omega, by go_num, Lib.hid (BA.out _ _)⟩
        case measure => simp [intOf]; omega
      · obtain ⟨j, hj⟩ : ∃ j, k = x.length - 1 + j := ⟨k - (x.length - 1), by omega⟩
        have hjy : j < y.length := by omega
        obtain ⟨c0, c1, c2, c3⟩ := CY.out j hjy
        have cl := fun {o : Nat} {v : Value} (h : w4.cell? ⟨gy, o, none⟩ = some v) => (HBe.out.cell (p := ⟨gy, o, none⟩) hgy).trans h
        have f0 := cl c0
        have f1 := cl c1
        have f2 := cl c2
        have f3 := cl c3
        clear cl c0 c1 c2 c3
        have h9 := Z2.out j hjy
        rw [← hj] at h9
        rw [h9] at d0 d1 d2 d3
        simp only [Tk.up] at d0 d1 d2 d3
        obtain ⟨y1, y2⟩ := Y3.out j hjy
        have tf : decide ((k : Int) < (x.length : Int) - 1) = false := decide_eq_false (by omega)
        have wj : (k : Int) - (x.length : Int) + 1 = (j : Int) := by omega
        have hjx : (j : Int) < (y.length : Int) := by omega
        have hj0 : (0 : Int) ≤ (j : Int) := by omega
        generalize (tkAt y j).kind = kd at *
        generalize (tkAt y j).text = tx at *
        generalize (tkAt y j).num = nm at *
        generalize (tkAt y j).at' = pc at *
        clear hf h9 hj
        have BA : Hid (∀ c1 c2, Below D w4 ((wr.alloc c1).alloc c2)) := Lib.hid (fun c1 c2 => (HBe.out.alloc hDr c1).alloc (by simp; omega) c2)
        go_wp2_with fail
        go_roundw
        case rel => exact ⟨k + 1, by omega, by go_num, Lib.hid (BA.out _ _)⟩
        case measure => simp [intOf]; omega
    · go_wp2_with fail
      go_ret
      exact ⟨rfl, by rw [HB.out]; exact B4.out.trans (HBe.out.mono hB4)⟩
end Go.Proofs.YtecijhaclbbccaaDoor
