/- before, of cursors. Written by mkhc.py. -/
import Derived.Test.YtepkmhcchmladaaHc1
namespace Go.Proofs.Ytepkmhcchmladaa.Cu
open Go.RowKit
set_option linter.unusedVariables false
set_option linter.unusedSimpArgs false


/-- Is an entry to be taken before another? -/
def ltC (a b : CE) : Bool := ltV a.1.2 b.1.2 || (!ltV b.1.2 a.1.2 && decide (a.2 < b.2))
theorem neq_nil (F : Nat) (w : World) : (binOp BinOp.neq 91 (Value.func (Fn.func F) #[] #[]) Value.nilFunc).run Try.prog w = .ok (.bool true) w := by kernel_rfl
attribute [local go_sem ↓] neq_nil

set_option maxRecDepth 100000 in
set_option maxHeartbeats 4000000 in
theorem before_cur {w : World} {g : Nat} {lv : Value} {es : List CE} {p : Int} (h : HeapAt w g (.func (.func 63) #[] #[]) lv es p) (i j : Nat) (hi : i < es.length) (hj : j < es.length) :
    Calls Try.prog 95 #[.pointer (some ⟨g, 0, none⟩), .int .i64 i, .int .i64 j] w fun e w' => e = .returned (.bool (ltC (atE es i) (atE es j))) ∧ Below w.heap.size w w' := by
  obtain ⟨c0, c1, c2⟩ := h.cell
  obtain ⟨r, cap, rfl, hlc, hcm, hrg, hrl⟩ := h.form' (by omega)
  have hgl := h.lt
  have RI := Lib.hid (h.rd _ (atE_mem hi))
  have RJ := Lib.hid (h.rd _ (atE_mem hj))
  obtain ⟨fi1, fi2, fi3, fi4⟩ := flat_at hi
  obtain ⟨fj1, fj2, fj3, fj4⟩ := flat_at hj
  have di1 := h.row.cellAt (i * 4) (by omega)
  have di2 := h.row.cellAt (i * 4 + 1) (by omega)
  have di3 := h.row.cellAt (i * 4 + 2) (by omega)
  have di4 := h.row.cellAt (i * 4 + 3) (by omega)
  have dj1 := h.row.cellAt (j * 4) (by omega)
  have dj2 := h.row.cellAt (j * 4 + 1) (by omega)
  have dj3 := h.row.cellAt (j * 4 + 2) (by omega)
  have dj4 := h.row.cellAt (j * 4 + 3) (by omega)
  rw [fi1] at di1
  rw [fi2] at di2
  rw [fi3] at di3
  rw [fi4] at di4
  rw [fj1] at dj1
  rw [fj2] at dj2
  rw [fj3] at dj3
  rw [fj4] at dj4
  generalize atE es i = x at *
  generalize atE es j = y at *
  obtain ⟨⟨⟨x1, x2⟩, ⟨x3, xz, x4⟩⟩, x5⟩ := x
  obtain ⟨⟨⟨y1, y2⟩, ⟨y3, yz, y4⟩⟩, y5⟩ := y
  generalize es.length = n at *
  unfold maxLen at hcm
  clear fi1 fi2 fi3 fi4 fj1 fj2 fj3 fj4 h
  have bi : (0 : Int) ≤ (i : Int) := by omega
  have bi' : (i : Int) < (n : Int) := by omega
  have bj : (0 : Int) ≤ (j : Int) := by omega
  have bj' : (j : Int) < (n : Int) := by omega
  dsimp only at di1 di2 di3 di4 dj1 dj2 dj3 dj4 RI RJ
  obtain ⟨b1, hb1⟩ : ∃ b, ltV (x3, xz, x4) (y3, yz, y4) = b := ⟨_, rfl⟩
  obtain ⟨b2, hb2⟩ : ∃ b, ltV (y3, yz, y4) (x3, xz, x4) = b := ⟨_, rfl⟩
  have l1 : ∀ W, Below w.heap.size w W → Calls Try.prog 63 #[.agg #[.pointer x1, .int .i64 x2, .slice x3 xz.length x4], .agg #[.pointer y1, .int .i64 y2, .slice y3 yz.length y4]] W fun e w' => e = .returned (.bool b1) ∧ Below W.heap.size W w' := fun W hW => by rw [← hb1]; exact less_calls _ _ _ _ _ _ _ _ _ _ W (RI.out.1.below hW) (RJ.out.1.below hW) RI.out.2.2.1 RJ.out.2.2.1
  have l2 : ∀ W, Below w.heap.size w W → Calls Try.prog 63 #[.agg #[.pointer y1, .int .i64 y2, .slice y3 yz.length y4], .agg #[.pointer x1, .int .i64 x2, .slice x3 xz.length x4]] W fun e w' => e = .returned (.bool b2) ∧ Below W.heap.size W w' := fun W hW => by rw [← hb2]; exact less_calls _ _ _ _ _ _ _ _ _ _ W (RJ.out.1.below hW) (RI.out.1.below hW) RJ.out.2.2.1 RI.out.2.2.1
  have EQ : Hid (ltC (((x1, x2), (x3, xz, x4)), x5) (((y1, y2), (y3, yz, y4)), y5) = (b1 || (!b2 && decide (x5 < y5)))) := Lib.hid (by unfold ltC; simp only; rw [hb1, hb2])
  clear hb1 hb2 RI RJ
  go_enter Try.func95, Try.ntmps95
  go_wp2_with fail
  go_region
  · generalize hW : World.drew _ = W
    have HW := Lib.hid hW
    clear hW
    have k0 : W.cell? ⟨g, 0, none⟩ = some (.func (.func 63) #[] #[]) := by rw [← HW.out]; go_simp
    have k1 : W.cell? ⟨w.heap.size, 0, none⟩ = some (.pointer x1) := by rw [← HW.out]; go_simp
    have k2 : W.cell? ⟨w.heap.size, 1, none⟩ = some (.int .i64 x2) := by rw [← HW.out]; go_simp
    have k3 : W.cell? ⟨w.heap.size, 2, none⟩ = some (.slice x3 xz.length x4) := by rw [← HW.out]; go_simp
    have k4 : W.cell? ⟨w.heap.size, 3, none⟩ = some (.int .i64 x5) := by rw [← HW.out]; go_simp
    have k5 : W.cell? ⟨w.heap.size + 1, 0, none⟩ = some (.pointer y1) := by rw [← HW.out]; go_simp
    have k6 : W.cell? ⟨w.heap.size + 1, 1, none⟩ = some (.int .i64 y2) := by rw [← HW.out]; go_simp
    have k7 : W.cell? ⟨w.heap.size + 1, 2, none⟩ = some (.slice y3 yz.length y4) := by rw [← HW.out]; go_simp
    have k8 : W.cell? ⟨w.heap.size + 1, 3, none⟩ = some (.int .i64 y5) := by rw [← HW.out]; go_simp
    have HSZ : Hid (W.heap.size = w.heap.size + 2) := Lib.hid (by rw [← HW.out]; simp)
    have B : Below w.heap.size w W := by rw [← HW.out]; exact below_drewN (((Below.refl _ _).alloc (Nat.le_refl _) _).alloc (by simp) _) 1
    have B' := Lib.hid B
    clear B HW c0 c1 c2 di1 di2 di3 di4 dj1 dj2 dj3 dj4
    cases b1
    · go_wp2_with fail
      go_still_tail 8, (by kernel_rfl)
      change wpList _ _ _ _ _ W.drew
      have B2 : Hid (Below w.heap.size w W.drew) := Lib.hid (below_drewN B'.out 1)
      have m0 : W.drew.cell? _ = _ := k0
      have m1 : W.drew.cell? _ = _ := k1
      have m2 : W.drew.cell? _ = _ := k2
      have m3 : W.drew.cell? _ = _ := k3
      have m4 : W.drew.cell? _ = _ := k4
      have m5 : W.drew.cell? _ = _ := k5
      have m6 : W.drew.cell? _ = _ := k6
      have m7 : W.drew.cell? _ = _ := k7
      have m8 : W.drew.cell? _ = _ := k8
      have HS2 : Hid (W.drew.heap.size = w.heap.size + 2) := HSZ
      clear k0 k1 k2 k3 k4 k5 k6 k7 k8
      generalize W.drew = V at *
      go_wp2_with fail
      refine (l1 _ B2.out).mono ?_
      rintro e V2 ⟨rfl, hb⟩
      have p0 := (hb.cell (p := ⟨g, 0, none⟩) (by rw [HS2.out]; show g < _; omega)).trans m0
      have p1 := (hb.cell (p := ⟨w.heap.size, 0, none⟩) (by rw [HS2.out]; show w.heap.size < _; omega)).trans m1
      have p2 := (hb.cell (p := ⟨w.heap.size, 1, none⟩) (by rw [HS2.out]; show w.heap.size < _; omega)).trans m2
      have p3 := (hb.cell (p := ⟨w.heap.size, 2, none⟩) (by rw [HS2.out]; show w.heap.size < _; omega)).trans m3
      have p4 := (hb.cell (p := ⟨w.heap.size, 3, none⟩) (by rw [HS2.out]; show w.heap.size < _; omega)).trans m4
      have p5 := (hb.cell (p := ⟨w.heap.size + 1, 0, none⟩) (by rw [HS2.out]; show w.heap.size + 1 < _; omega)).trans m5
      have p6 := (hb.cell (p := ⟨w.heap.size + 1, 1, none⟩) (by rw [HS2.out]; show w.heap.size + 1 < _; omega)).trans m6
      have p7 := (hb.cell (p := ⟨w.heap.size + 1, 2, none⟩) (by rw [HS2.out]; show w.heap.size + 1 < _; omega)).trans m7
      have p8 := (hb.cell (p := ⟨w.heap.size + 1, 3, none⟩) (by rw [HS2.out]; show w.heap.size + 1 < _; omega)).trans m8
      have B3 : Hid (Below w.heap.size w V2) := Lib.hid (B2.out.trans (hb.mono (by rw [HS2.out]; omega)))
      have HS3 : Hid (w.heap.size + 2 ≤ V2.heap.size) := Lib.hid (by have := hb.size; rw [HS2.out] at this; exact this)
      clear hb m0 m1 m2 m3 m4 m5 m6 m7 m8
      go_wp2_with fail
      go_still_tail 8, (by kernel_rfl)
      change wpList _ _ _ _ _ V2.drew
      have B4 : Hid (Below w.heap.size w V2.drew) := Lib.hid (below_drewN B3.out 1)
      have m0 : V2.drew.cell? _ = _ := p0
      have m1 : V2.drew.cell? _ = _ := p1
      have m2 : V2.drew.cell? _ = _ := p2
      have m3 : V2.drew.cell? _ = _ := p3
      have m4 : V2.drew.cell? _ = _ := p4
      have m5 : V2.drew.cell? _ = _ := p5
      have m6 : V2.drew.cell? _ = _ := p6
      have m7 : V2.drew.cell? _ = _ := p7
      have m8 : V2.drew.cell? _ = _ := p8
      have HS4 : Hid (w.heap.size + 2 ≤ V2.drew.heap.size) := HS3
      clear p0 p1 p2 p3 p4 p5 p6 p7 p8
      generalize V2.drew = V at *
      go_wp2_with fail
      refine (l2 _ B4.out).mono ?_
      rintro e V3 ⟨rfl, hb⟩
      have p4 := (hb.cell (p := ⟨w.heap.size, 3, none⟩) (by have := HS4.out; show w.heap.size < _; omega)).trans m4
      have p8 := (hb.cell (p := ⟨w.heap.size + 1, 3, none⟩) (by have := HS4.out; show w.heap.size + 1 < _; omega)).trans m8
      have B5 : Hid (Below w.heap.size w V3) := Lib.hid (B4.out.trans (hb.mono (by have := HS4.out; omega)))
      clear hb m0 m1 m2 m3 m4 m5 m6 m7 m8
      cases b2
      · go_wp2_with fail
        go_ret
        exact ⟨by rw [EQ.out]; rfl, B5.out⟩
      · go_wp2_with fail
        go_ret
        exact ⟨by rw [EQ.out]; rfl, B5.out⟩
    · go_wp2_with fail
      go_still_tail 8, (by kernel_rfl)
      change wpList _ _ _ _ _ W.drew
      have B2 : Hid (Below w.heap.size w W.drew) := Lib.hid (below_drewN B'.out 1)
      have HS2 : Hid (W.drew.heap.size = w.heap.size + 2) := HSZ
      clear k0 k1 k2 k3 k4 k5 k6 k7 k8
      generalize W.drew = V at *
      go_wp2_with fail
      refine (l1 _ B2.out).mono ?_
      rintro e V2 ⟨rfl, hb⟩
      have B3 : Hid (Below w.heap.size w V2) := Lib.hid (B2.out.trans (hb.mono (by rw [HS2.out]; omega)))
      clear hb
      go_wp2_with fail
      go_ret
      exact ⟨by rw [EQ.out]; rfl, B3.out⟩
  · generalize hW : World.drew _ = W
    have HW := Lib.hid hW
    clear hW
    have k0 : W.cell? ⟨g, 0, none⟩ = some (.func (.func 63) #[] #[]) := by rw [← HW.out]; go_simp
    have k1 : W.cell? ⟨w.heap.size + 1, 0, none⟩ = some (.pointer x1) := by rw [← HW.out]; go_simp
    have k2 : W.cell? ⟨w.heap.size + 1, 1, none⟩ = some (.int .i64 x2) := by rw [← HW.out]; go_simp
    have k3 : W.cell? ⟨w.heap.size + 1, 2, none⟩ = some (.slice x3 xz.length x4) := by rw [← HW.out]; go_simp
    have k4 : W.cell? ⟨w.heap.size + 1, 3, none⟩ = some (.int .i64 x5) := by rw [← HW.out]; go_simp
    have k5 : W.cell? ⟨w.heap.size, 0, none⟩ = some (.pointer y1) := by rw [← HW.out]; go_simp
    have k6 : W.cell? ⟨w.heap.size, 1, none⟩ = some (.int .i64 y2) := by rw [← HW.out]; go_simp
    have k7 : W.cell? ⟨w.heap.size, 2, none⟩ = some (.slice y3 yz.length y4) := by rw [← HW.out]; go_simp
    have k8 : W.cell? ⟨w.heap.size, 3, none⟩ = some (.int .i64 y5) := by rw [← HW.out]; go_simp
    have HSZ : Hid (W.heap.size = w.heap.size + 2) := Lib.hid (by rw [← HW.out]; simp)
    have B : Below w.heap.size w W := by rw [← HW.out]; exact below_drewN (((Below.refl _ _).alloc (Nat.le_refl _) _).alloc (by simp) _) 1
    have B' := Lib.hid B
    clear B HW c0 c1 c2 di1 di2 di3 di4 dj1 dj2 dj3 dj4
    cases b1
    · go_wp2_with fail
      go_still_tail 8, (by kernel_rfl)
      change wpList _ _ _ _ _ W.drew
      have B2 : Hid (Below w.heap.size w W.drew) := Lib.hid (below_drewN B'.out 1)
      have m0 : W.drew.cell? _ = _ := k0
      have m1 : W.drew.cell? _ = _ := k1
      have m2 : W.drew.cell? _ = _ := k2
      have m3 : W.drew.cell? _ = _ := k3
      have m4 : W.drew.cell? _ = _ := k4
      have m5 : W.drew.cell? _ = _ := k5
      have m6 : W.drew.cell? _ = _ := k6
      have m7 : W.drew.cell? _ = _ := k7
      have m8 : W.drew.cell? _ = _ := k8
      have HS2 : Hid (W.drew.heap.size = w.heap.size + 2) := HSZ
      clear k0 k1 k2 k3 k4 k5 k6 k7 k8
      generalize W.drew = V at *
      go_wp2_with fail
      refine (l1 _ B2.out).mono ?_
      rintro e V2 ⟨rfl, hb⟩
      have p0 := (hb.cell (p := ⟨g, 0, none⟩) (by rw [HS2.out]; show g < _; omega)).trans m0
      have p1 := (hb.cell (p := ⟨w.heap.size + 1, 0, none⟩) (by rw [HS2.out]; show w.heap.size + 1 < _; omega)).trans m1
      have p2 := (hb.cell (p := ⟨w.heap.size + 1, 1, none⟩) (by rw [HS2.out]; show w.heap.size + 1 < _; omega)).trans m2
      have p3 := (hb.cell (p := ⟨w.heap.size + 1, 2, none⟩) (by rw [HS2.out]; show w.heap.size + 1 < _; omega)).trans m3
      have p4 := (hb.cell (p := ⟨w.heap.size + 1, 3, none⟩) (by rw [HS2.out]; show w.heap.size + 1 < _; omega)).trans m4
      have p5 := (hb.cell (p := ⟨w.heap.size, 0, none⟩) (by rw [HS2.out]; show w.heap.size < _; omega)).trans m5
      have p6 := (hb.cell (p := ⟨w.heap.size, 1, none⟩) (by rw [HS2.out]; show w.heap.size < _; omega)).trans m6
      have p7 := (hb.cell (p := ⟨w.heap.size, 2, none⟩) (by rw [HS2.out]; show w.heap.size < _; omega)).trans m7
      have p8 := (hb.cell (p := ⟨w.heap.size, 3, none⟩) (by rw [HS2.out]; show w.heap.size < _; omega)).trans m8
      have B3 : Hid (Below w.heap.size w V2) := Lib.hid (B2.out.trans (hb.mono (by rw [HS2.out]; omega)))
      have HS3 : Hid (w.heap.size + 2 ≤ V2.heap.size) := Lib.hid (by have := hb.size; rw [HS2.out] at this; exact this)
      clear hb m0 m1 m2 m3 m4 m5 m6 m7 m8
      go_wp2_with fail
      go_still_tail 8, (by kernel_rfl)
      change wpList _ _ _ _ _ V2.drew
      have B4 : Hid (Below w.heap.size w V2.drew) := Lib.hid (below_drewN B3.out 1)
      have m0 : V2.drew.cell? _ = _ := p0
      have m1 : V2.drew.cell? _ = _ := p1
      have m2 : V2.drew.cell? _ = _ := p2
      have m3 : V2.drew.cell? _ = _ := p3
      have m4 : V2.drew.cell? _ = _ := p4
      have m5 : V2.drew.cell? _ = _ := p5
      have m6 : V2.drew.cell? _ = _ := p6
      have m7 : V2.drew.cell? _ = _ := p7
      have m8 : V2.drew.cell? _ = _ := p8
      have HS4 : Hid (w.heap.size + 2 ≤ V2.drew.heap.size) := HS3
      clear p0 p1 p2 p3 p4 p5 p6 p7 p8
      generalize V2.drew = V at *
      go_wp2_with fail
      refine (l2 _ B4.out).mono ?_
      rintro e V3 ⟨rfl, hb⟩
      have p4 := (hb.cell (p := ⟨w.heap.size + 1, 3, none⟩) (by have := HS4.out; show w.heap.size + 1 < _; omega)).trans m4
      have p8 := (hb.cell (p := ⟨w.heap.size, 3, none⟩) (by have := HS4.out; show w.heap.size < _; omega)).trans m8
      have B5 : Hid (Below w.heap.size w V3) := Lib.hid (B4.out.trans (hb.mono (by have := HS4.out; omega)))
      clear hb m0 m1 m2 m3 m4 m5 m6 m7 m8
      cases b2
      · go_wp2_with fail
        go_ret
        exact ⟨by rw [EQ.out]; rfl, B5.out⟩
      · go_wp2_with fail
        go_ret
        exact ⟨by rw [EQ.out]; rfl, B5.out⟩
    · go_wp2_with fail
      go_still_tail 8, (by kernel_rfl)
      change wpList _ _ _ _ _ W.drew
      have B2 : Hid (Below w.heap.size w W.drew) := Lib.hid (below_drewN B'.out 1)
      have HS2 : Hid (W.drew.heap.size = w.heap.size + 2) := HSZ
      clear k0 k1 k2 k3 k4 k5 k6 k7 k8
      generalize W.drew = V at *
      go_wp2_with fail
      refine (l1 _ B2.out).mono ?_
      rintro e V2 ⟨rfl, hb⟩
      have B3 : Hid (Below w.heap.size w V2) := Lib.hid (B2.out.trans (hb.mono (by rw [HS2.out]; omega)))
      clear hb
      go_wp2_with fail
      go_ret
      exact ⟨by rw [EQ.out]; rfl, B3.out⟩
end Go.Proofs.Ytepkmhcchmladaa.Cu
