/- Contract of before: which of two entries is to be taken first. (Written by mkhp2.py.) -/
import Derived.Test.YtfpocoaddmgakaaHp1
namespace Go.Proofs.Ytfpocoaddmgakaa
open Go.RowKit
set_option linter.unusedVariables false
set_option linter.unusedSimpArgs false

theorem neq_nil (F : Nat) (w : World) : (binOp BinOp.neq 50 (Value.func (Fn.func F) #[] #[]) Value.nilFunc).run Try.prog w = .ok (.bool true) w := by kernel_rfl
attribute [local go_sem ↓] neq_nil
theorem below_step {B : Nat} {w W W1 : World} {n : Nat} (h : Below B w W) (e : W.drewN n = W1) : Below B w W1 := by subst e; exact below_drewN h n
theorem cell_step {W W1 : World} {n : Nat} {a : Addr} {v : Value} (h : W.cell? a = some v) (e : W.drewN n = W1) : W1.cell? a = some v := by subst e; exact h

set_option maxRecDepth 100000 in
set_option maxHeartbeats 2000000 in
theorem before_less {w : World} {g : Nat} {lv : Value} {es : List (Int × Int)} {p : Int} (h : HeapAt w g (.func (.func 22) #[] #[]) lv es p) (i j : Nat) (hi : i < es.length) (hj : j < es.length) :
    Calls Try.prog 31 #[.pointer (some ⟨g, 0, none⟩), .int .i64 i, .int .i64 j] w fun e w' => e = .returned (.bool (ltE (fun a b => decide (a < b)) (atE es i) (atE es j))) ∧ Below w.heap.size w w' := by
  obtain ⟨c0, c1, c2⟩ := h.cell
  obtain ⟨r, cap, rfl, hlc, hcm, hrg, hrl⟩ := h.form' (by omega)
  have hgl := h.lt
  obtain ⟨fi1, fi2⟩ := flat_at hi
  obtain ⟨fj1, fj2⟩ := flat_at hj
  have di1 := h.row.cellAt (i * 2) (by omega)
  have di2 := h.row.cellAt (i * 2 + 1) (by omega)
  have dj1 := h.row.cellAt (j * 2) (by omega)
  have dj2 := h.row.cellAt (j * 2 + 1) (by omega)
  rw [fi1] at di1
  rw [fi2] at di2
  rw [fj1] at dj1
  rw [fj2] at dj2
  generalize atE es i = x at *
  generalize atE es j = y at *
  obtain ⟨x1, x2⟩ := x
  obtain ⟨y1, y2⟩ := y
  generalize es.length = n at *
  unfold maxLen at hcm
  clear fi1 fi2 fj1 fj2 h
  have bi : (0 : Int) ≤ (i : Int) := by omega
  have bi' : (i : Int) < (n : Int) := by omega
  have bj : (0 : Int) ≤ (j : Int) := by omega
  have bj' : (j : Int) < (n : Int) := by omega
  simp only at di1 di2 dj1 dj2
  obtain ⟨b1, hb1⟩ : ∃ b, (fun a b => decide (a < b)) x1 y1 = b := ⟨_, rfl⟩
  obtain ⟨b2, hb2⟩ : ∃ b, (fun a b => decide (a < b)) y1 x1 = b := ⟨_, rfl⟩
  have l1 : ∀ W, Calls Try.prog 22 #[.int .i64 x1, .int .i64 y1] W fun e w' => e = .returned (.bool b1) ∧ w' = W := fun W => by rw [← hb1]; exact (less_calls _ _ W).mono fun _ _ h => ⟨h.1, h.2.symm⟩
  have l2 : ∀ W, Calls Try.prog 22 #[.int .i64 y1, .int .i64 x1] W fun e w' => e = .returned (.bool b2) ∧ w' = W := fun W => by rw [← hb2]; exact (less_calls _ _ W).mono fun _ _ h => ⟨h.1, h.2.symm⟩
  have E : Hid (ltE (fun a b => decide (a < b)) (x1, x2) (y1, y2) = (b1 || (!b2 && decide (x2 < y2)))) := Lib.hid (by unfold ltE; rw [← hb1, ← hb2])
  clear hb1 hb2
  go_enter Try.func31, Try.ntmps31
  go_wp2_with fail
  go_region
  · generalize hW : World.drew _ = W
    have HW := Lib.hid hW
    clear hW
    have k0 : W.cell? ⟨g, 0, none⟩ = some (.func (.func 22) #[] #[]) := by rw [← HW.out]; go_simp
    have k1 : W.cell? ⟨w.heap.size, 0, none⟩ = some (.int .i64 x1) := by rw [← HW.out]; go_simp
    have k2 : W.cell? ⟨w.heap.size, 1, none⟩ = some (.int .i64 x2) := by rw [← HW.out]; go_simp
    have k3 : W.cell? ⟨w.heap.size + 1, 0, none⟩ = some (.int .i64 y1) := by rw [← HW.out]; go_simp
    have k4 : W.cell? ⟨w.heap.size + 1, 1, none⟩ = some (.int .i64 y2) := by rw [← HW.out]; go_simp
    have B : Below w.heap.size w W := by rw [← HW.out]; exact below_drewN (((Below.refl _ _).alloc (Nat.le_refl _) _).alloc (by simp) _) 1
    have B' := Lib.hid B
    clear B HW c0 c1 c2 di1 di2 dj1 dj2
    cases b1
    · go_wp2_with fail
      go_quiet ((exact Calls.quiet_of_same (l1 _)))
      generalize hV : W.drewN _ = V
      have C' := Lib.hid (below_step B'.out hV)
      have m0 := cell_step k0 hV
      have m1 := cell_step k1 hV
      have m2 := cell_step k2 hV
      have m3 := cell_step k3 hV
      have m4 := cell_step k4 hV
      clear hV k0 k1 k2 k3 k4
      cases b2
      · go_wp2_with fail
        go_quiet ((exact Calls.quiet_of_same (l2 _)))
        go_wp2_with fail
        go_ret
        exact ⟨by rw [E.out]; rfl, below_drewN C'.out _⟩
      · go_wp2_with fail
        go_quiet ((exact Calls.quiet_of_same (l2 _)))
        go_wp2_with fail
        go_ret
        exact ⟨by rw [E.out]; rfl, below_drewN C'.out _⟩
    · go_wp2_with fail
      go_quiet ((exact Calls.quiet_of_same (l1 _)))
      go_wp2_with fail
      go_ret
      exact ⟨by rw [E.out]; rfl, below_drewN B'.out _⟩
  · generalize hW : World.drew _ = W
    have HW := Lib.hid hW
    clear hW
    have k0 : W.cell? ⟨g, 0, none⟩ = some (.func (.func 22) #[] #[]) := by rw [← HW.out]; go_simp
    have k1 : W.cell? ⟨w.heap.size + 1, 0, none⟩ = some (.int .i64 x1) := by rw [← HW.out]; go_simp
    have k2 : W.cell? ⟨w.heap.size + 1, 1, none⟩ = some (.int .i64 x2) := by rw [← HW.out]; go_simp
    have k3 : W.cell? ⟨w.heap.size, 0, none⟩ = some (.int .i64 y1) := by rw [← HW.out]; go_simp
    have k4 : W.cell? ⟨w.heap.size, 1, none⟩ = some (.int .i64 y2) := by rw [← HW.out]; go_simp
    have B : Below w.heap.size w W := by rw [← HW.out]; exact below_drewN (((Below.refl _ _).alloc (Nat.le_refl _) _).alloc (by simp) _) 1
    have B' := Lib.hid B
    clear B HW c0 c1 c2 di1 di2 dj1 dj2
    cases b1
    · go_wp2_with fail
      go_quiet ((exact Calls.quiet_of_same (l1 _)))
      generalize hV : W.drewN _ = V
      have C' := Lib.hid (below_step B'.out hV)
      have m0 := cell_step k0 hV
      have m1 := cell_step k1 hV
      have m2 := cell_step k2 hV
      have m3 := cell_step k3 hV
      have m4 := cell_step k4 hV
      clear hV k0 k1 k2 k3 k4
      cases b2
      · go_wp2_with fail
        go_quiet ((exact Calls.quiet_of_same (l2 _)))
        go_wp2_with fail
        go_ret
        exact ⟨by rw [E.out]; rfl, below_drewN C'.out _⟩
      · go_wp2_with fail
        go_quiet ((exact Calls.quiet_of_same (l2 _)))
        go_wp2_with fail
        go_ret
        exact ⟨by rw [E.out]; rfl, below_drewN C'.out _⟩
    · go_wp2_with fail
      go_quiet ((exact Calls.quiet_of_same (l1 _)))
      go_wp2_with fail
      go_ret
      exact ⟨by rw [E.out]; rfl, below_drewN B'.out _⟩

end Go.Proofs.Ytfpocoaddmgakaa
