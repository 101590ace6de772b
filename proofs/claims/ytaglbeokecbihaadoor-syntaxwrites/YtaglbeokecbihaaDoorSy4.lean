/- wraps. Written by mksy4.py. -/
import Derived.Test.YtaglbeokecbihaaDoorSy3
namespace Go.Proofs.YtaglbeokecbihaaDoor
open Go.RowKit
set_option linter.unusedVariables false
set_option linter.unusedSimpArgs false

theorem isOp_k {N : Nat} {k : X} {k1 : Int} {k2 : ByteArray} {k3 k4 : Int} {k5 : Option Addr} {k6 k7 : Nat} {w0 : World} (h : XIn N w0 k ⟨k1, k2, k3, k4, k5, k6, k7⟩) (w : World) : Calls Tryd.prog 54 #[.agg #[.int .i64 k1, .string k2, .int .i64 k3, .int .i64 k4, .slice k5 k6 k7]] w (BoolRet w k.isOp) := by
  have h9 := isOp_calls (v := ⟨k1, k2, k3, k4, k5, k6, k7⟩) w h
  exact h9
theorem box5 (w : World) (a b c d e : Value) (T : TypeId) : (w.alloc (.cells #[a, b, c, d, e] T)).heap[w.heap.size]? = some (.cells #[a, b, c, d, e] T (0, 0)) := heap_alloc_new _ _
theorem cells5 {w : World} {g : Nat} {a b c d e : Value} {T : TypeId} (h : w.heap[g]? = some (.cells #[a, b, c, d, e] T (0, 0))) : w.cell? ⟨g, 0, none⟩ = some a ∧ w.cell? ⟨g, 1, none⟩ = some b ∧ w.cell? ⟨g, 2, none⟩ = some c ∧ w.cell? ⟨g, 3, none⟩ = some d ∧ w.cell? ⟨g, 4, none⟩ = some e :=
  ⟨by simp [World.cell?, h], by simp [World.cell?, h], by simp [World.cell?, h], by simp [World.cell?, h], by simp [World.cell?, h]⟩
theorem lvl_two {o : Nat} (ho : o < 5) : lvl o = 1 ∨ lvl o = 2 := by unfold lvl; split; exact .inl rfl; split; exact .inr rfl; omega
set_option maxRecDepth 100000 in
set_option maxHeartbeats 1000000 in
theorem wraps_0 {N : Nat} {o g c : Nat} {k : X} {k1 : Int} {k2 : ByteArray} {k3 k4 : Int} {k5 : Option Addr} {k6 k7 : Nat} (w : World) (ho : o < 5) (hg : g < N) (hN : N ≤ w.heap.size) (f0 : w.cell? ⟨g, 0, none⟩ = some (.int .i64 k1)) (f1 : w.cell? ⟨g, 1, none⟩ = some (.string k2)) (f2 : w.cell? ⟨g, 2, none⟩ = some (.int .i64 k3)) (f3 : w.cell? ⟨g, 3, none⟩ = some (.int .i64 k4)) (f4 : w.cell? ⟨g, 4, none⟩ = some (.slice k5 k6 k7)) (hk : XIn N w k ⟨k1, k2, k3, k4, k5, k6, k7⟩) :
    Calls Tryd.prog 62 #[.agg #[.int .i64 0, .string ⟨#[]⟩, .int .i64 0, .int .i64 o, .slice (some ⟨g, 0, none⟩) 2 c], .int .i64 0] w (BoolRet w (wrapB o 0 k)) := by
  obtain ⟨M, hM⟩ : ∃ M, w.heap.size = M := ⟨_, rfl⟩
  have HM := Lib.hid hM
  have ci := isOp_k hk
  have X1 := Lib.hid (box5 w (.int .i64 0) (.string ⟨#[]⟩) (.int .i64 0) (.int .i64 o) (.slice (some ⟨g, 0, none⟩) 2 c) 57)
  have X2 := Lib.hid (box5 (w.alloc (.cells #[.int .i64 0, .string ⟨#[]⟩, .int .i64 0, .int .i64 o, .slice (some ⟨g, 0, none⟩) 2 c] 57)) (.int .i64 k1) (.string k2) (.int .i64 k3) (.int .i64 k4) (.slice k5 k6 k7) 57)
  have B1 := Lib.hid ((Below.refl w.heap.size w).alloc (Nat.le_refl _) (.cells #[.int .i64 0, .string ⟨#[]⟩, .int .i64 0, .int .i64 o, .slice (some ⟨g, 0, none⟩) 2 c] 57))
  have B2 := Lib.hid (below2 w (.cells #[.int .i64 0, .string ⟨#[]⟩, .int .i64 0, .int .i64 o, .slice (some ⟨g, 0, none⟩) 2 c] 57) (.cells #[.int .i64 k1, .string k2, .int .i64 k3, .int .i64 k4, .slice k5 k6 k7] 57))
  have hgM : g < w.heap.size := by omega
  have e0 := (B1.out.cell (p := ⟨g, 0, none⟩) hgM).trans f0
  have e1 := (B1.out.cell (p := ⟨g, 1, none⟩) hgM).trans f1
  have e2 := (B1.out.cell (p := ⟨g, 2, none⟩) hgM).trans f2
  have e3 := (B1.out.cell (p := ⟨g, 3, none⟩) hgM).trans f3
  have e4 := (B1.out.cell (p := ⟨g, 4, none⟩) hgM).trans f4
  have S2 : Hid (((w.alloc (.cells #[.int .i64 0, .string ⟨#[]⟩, .int .i64 0, .int .i64 o, .slice (some ⟨g, 0, none⟩) 2 c] 57)).alloc (.cells #[.int .i64 k1, .string k2, .int .i64 k3, .int .i64 k4, .slice k5 k6 k7] 57)).heap.size = M + 2) := Lib.hid (by simp [hM])
  have Y1 : Hid (((w.alloc (.cells #[.int .i64 0, .string ⟨#[]⟩, .int .i64 0, .int .i64 o, .slice (some ⟨g, 0, none⟩) 2 c] 57)).alloc (.cells #[.int .i64 k1, .string k2, .int .i64 k3, .int .i64 k4, .slice k5 k6 k7] 57)).heap[M]? = some (.cells #[.int .i64 0, .string ⟨#[]⟩, .int .i64 0, .int .i64 o, .slice (some ⟨g, 0, none⟩) 2 c] 57 (0, 0))) := Lib.hid (by
    rw [← hM]; exact (((Below.refl _ _).alloc (Nat.le_refl _) _).block _ (by simp)).trans X1.out)
  have Y2 : Hid (((w.alloc (.cells #[.int .i64 0, .string ⟨#[]⟩, .int .i64 0, .int .i64 o, .slice (some ⟨g, 0, none⟩) 2 c] 57)).alloc (.cells #[.int .i64 k1, .string k2, .int .i64 k3, .int .i64 k4, .slice k5 k6 k7] 57)).heap[M + 1]? = some (.cells #[.int .i64 k1, .string k2, .int .i64 k3, .int .i64 k4, .slice k5 k6 k7] 57 (0, 0))) := Lib.hid (by
    have h9 := X2.out
    rwa [show (w.alloc (.cells #[.int .i64 0, .string ⟨#[]⟩, .int .i64 0, .int .i64 o, .slice (some ⟨g, 0, none⟩) 2 c] 57)).heap.size = M + 1 by simp [hM]] at h9)
  rw [hM] at B2
  have HK := Lib.hid hk
  clear f0 f1 f2 f3 f4 X1 X2 B1 hM hk
  have MX := HM.out
  go_enter Tryd.func62, Tryd.ntmps62
  go_wp2_with fail
  refine (ci _).mono ?_
  generalize World.alloc (World.alloc w _) _ = W0 at *
  rintro e w3 ⟨rfl, hb3⟩
  have B3 : Hid (Below M w w3) := Lib.hid (B2.out.trans (hb3.mono (by rw [S2.out]; omega)))
  have z1 := (hb3.block M (by rw [S2.out]; omega)).trans Y1.out
  have z2 := (hb3.block (M + 1) (by rw [S2.out]; omega)).trans Y2.out
  obtain ⟨p0, p1, p2, p3, p4⟩ := cells5 z1
  obtain ⟨q0, q1, q2, q3, q4⟩ := cells5 z2
  clear hb3 z1 z2 ci e0 e1 e2 e3 e4 MX
  cases k with
  | leaf t =>
    simp only [X.isOp]
    go_wp2_with fail
    go_ret
    exact ⟨rfl, by rw [HM.out]; exact B3.out⟩
  | op p a b =>
    obtain ⟨g9, c9, va, vb, hv, hp, _⟩ := HK.out
    obtain rfl : k4 = (p : Int) := congrArg XV.op hv
    have cl := fun W => level_calls o ho W
    have cp := fun W => level_calls p hp W
    have DF : Hid (wrapB o 0 (.op p a b) = ((lvl p == 1 && lvl o == 2) || ((0 : Nat) == 1 && lvl p == lvl o))) := Lib.hid rfl
    have BQ : Hid (∀ q, Below M w (w3.drewN q)) := Lib.hid (fun q => below_drewN B3.out q)
    simp only [X.isOp]
    clear HK hv B3
    rcases lvl_two ho with ha | ha <;> rcases lvl_two hp with hb | hb
    · rw [ha, hb] at DF
      have c1 : ∀ W, Calls Tryd.prog 70 #[.int .i64 o] W fun e w' => e = .returned (.int .i64 1) ∧ w' = W := fun W => (cl W).mono fun e w' h => ⟨by rw [h.1, ha]; rfl, h.2.symm⟩
      have c2 : ∀ W, Calls Tryd.prog 70 #[.int .i64 p] W fun e w' => e = .returned (.int .i64 1) ∧ w' = W := fun W => (cp W).mono fun e w' h => ⟨by rw [h.1, hb]; rfl, h.2.symm⟩
      clear ha hb cl cp
      go_wp2_with fail
      go_quiet (first | (with_reducible exact Calls.quiet_of_same (c1 _)) | (with_reducible exact Calls.quiet_of_same (c2 _)))
      go_wp2_with fail
      go_ret
      exact ⟨by rw [DF.out]; rfl, by rw [HM.out]; exact BQ.out _⟩
    · rw [ha, hb] at DF
      have c1 : ∀ W, Calls Tryd.prog 70 #[.int .i64 o] W fun e w' => e = .returned (.int .i64 1) ∧ w' = W := fun W => (cl W).mono fun e w' h => ⟨by rw [h.1, ha]; rfl, h.2.symm⟩
      have c2 : ∀ W, Calls Tryd.prog 70 #[.int .i64 p] W fun e w' => e = .returned (.int .i64 2) ∧ w' = W := fun W => (cp W).mono fun e w' h => ⟨by rw [h.1, hb]; rfl, h.2.symm⟩
      clear ha hb cl cp
      go_wp2_with fail
      go_quiet (first | (with_reducible exact Calls.quiet_of_same (c1 _)) | (with_reducible exact Calls.quiet_of_same (c2 _)))
      go_wp2_with fail
      go_ret
      exact ⟨by rw [DF.out]; rfl, by rw [HM.out]; exact BQ.out _⟩
    · rw [ha, hb] at DF
      have c1 : ∀ W, Calls Tryd.prog 70 #[.int .i64 o] W fun e w' => e = .returned (.int .i64 2) ∧ w' = W := fun W => (cl W).mono fun e w' h => ⟨by rw [h.1, ha]; rfl, h.2.symm⟩
      have c2 : ∀ W, Calls Tryd.prog 70 #[.int .i64 p] W fun e w' => e = .returned (.int .i64 1) ∧ w' = W := fun W => (cp W).mono fun e w' h => ⟨by rw [h.1, hb]; rfl, h.2.symm⟩
      clear ha hb cl cp
      go_wp2_with fail
      go_quiet (first | (with_reducible exact Calls.quiet_of_same (c1 _)) | (with_reducible exact Calls.quiet_of_same (c2 _)))
      go_wp2_with fail
      go_ret
      exact ⟨by rw [DF.out]; rfl, by rw [HM.out]; exact BQ.out _⟩
    · rw [ha, hb] at DF
      have c1 : ∀ W, Calls Tryd.prog 70 #[.int .i64 o] W fun e w' => e = .returned (.int .i64 2) ∧ w' = W := fun W => (cl W).mono fun e w' h => ⟨by rw [h.1, ha]; rfl, h.2.symm⟩
      have c2 : ∀ W, Calls Tryd.prog 70 #[.int .i64 p] W fun e w' => e = .returned (.int .i64 2) ∧ w' = W := fun W => (cp W).mono fun e w' h => ⟨by rw [h.1, hb]; rfl, h.2.symm⟩
      clear ha hb cl cp
      go_wp2_with fail
      go_quiet (first | (with_reducible exact Calls.quiet_of_same (c1 _)) | (with_reducible exact Calls.quiet_of_same (c2 _)))
      go_wp2_with fail
      go_ret
      exact ⟨by rw [DF.out]; rfl, by rw [HM.out]; exact BQ.out _⟩
set_option maxRecDepth 100000 in
set_option maxHeartbeats 1000000 in
theorem wraps_1 {N : Nat} {o g c : Nat} {k : X} {k1 : Int} {k2 : ByteArray} {k3 k4 : Int} {k5 : Option Addr} {k6 k7 : Nat} (w : World) (ho : o < 5) (hg : g < N) (hN : N ≤ w.heap.size) (f0 : w.cell? ⟨g, 5, none⟩ = some (.int .i64 k1)) (f1 : w.cell? ⟨g, 6, none⟩ = some (.string k2)) (f2 : w.cell? ⟨g, 7, none⟩ = some (.int .i64 k3)) (f3 : w.cell? ⟨g, 8, none⟩ = some (.int .i64 k4)) (f4 : w.cell? ⟨g, 9, none⟩ = some (.slice k5 k6 k7)) (hk : XIn N w k ⟨k1, k2, k3, k4, k5, k6, k7⟩) :
    Calls Tryd.prog 62 #[.agg #[.int .i64 0, .string ⟨#[]⟩, .int .i64 0, .int .i64 o, .slice (some ⟨g, 0, none⟩) 2 c], .int .i64 1] w (BoolRet w (wrapB o 1 k)) := by
  obtain ⟨M, hM⟩ : ∃ M, w.heap.size = M := ⟨_, rfl⟩
  have HM := Lib.hid hM
  have ci := isOp_k hk
  have X1 := Lib.hid (box5 w (.int .i64 0) (.string ⟨#[]⟩) (.int .i64 0) (.int .i64 o) (.slice (some ⟨g, 0, none⟩) 2 c) 57)
  have X2 := Lib.hid (box5 (w.alloc (.cells #[.int .i64 0, .string ⟨#[]⟩, .int .i64 0, .int .i64 o, .slice (some ⟨g, 0, none⟩) 2 c] 57)) (.int .i64 k1) (.string k2) (.int .i64 k3) (.int .i64 k4) (.slice k5 k6 k7) 57)
  have B1 := Lib.hid ((Below.refl w.heap.size w).alloc (Nat.le_refl _) (.cells #[.int .i64 0, .string ⟨#[]⟩, .int .i64 0, .int .i64 o, .slice (some ⟨g, 0, none⟩) 2 c] 57))
  have B2 := Lib.hid (below2 w (.cells #[.int .i64 0, .string ⟨#[]⟩, .int .i64 0, .int .i64 o, .slice (some ⟨g, 0, none⟩) 2 c] 57) (.cells #[.int .i64 k1, .string k2, .int .i64 k3, .int .i64 k4, .slice k5 k6 k7] 57))
  have hgM : g < w.heap.size := by omega
  have e0 := (B1.out.cell (p := ⟨g, 5, none⟩) hgM).trans f0
  have e1 := (B1.out.cell (p := ⟨g, 6, none⟩) hgM).trans f1
  have e2 := (B1.out.cell (p := ⟨g, 7, none⟩) hgM).trans f2
  have e3 := (B1.out.cell (p := ⟨g, 8, none⟩) hgM).trans f3
  have e4 := (B1.out.cell (p := ⟨g, 9, none⟩) hgM).trans f4
  have S2 : Hid (((w.alloc (.cells #[.int .i64 0, .string ⟨#[]⟩, .int .i64 0, .int .i64 o, .slice (some ⟨g, 0, none⟩) 2 c] 57)).alloc (.cells #[.int .i64 k1, .string k2, .int .i64 k3, .int .i64 k4, .slice k5 k6 k7] 57)).heap.size = M + 2) := Lib.hid (by simp [hM])
  have Y1 : Hid (((w.alloc (.cells #[.int .i64 0, .string ⟨#[]⟩, .int .i64 0, .int .i64 o, .slice (some ⟨g, 0, none⟩) 2 c] 57)).alloc (.cells #[.int .i64 k1, .string k2, .int .i64 k3, .int .i64 k4, .slice k5 k6 k7] 57)).heap[M]? = some (.cells #[.int .i64 0, .string ⟨#[]⟩, .int .i64 0, .int .i64 o, .slice (some ⟨g, 0, none⟩) 2 c] 57 (0, 0))) := Lib.hid (by
    rw [← hM]; exact (((Below.refl _ _).alloc (Nat.le_refl _) _).block _ (by simp)).trans X1.out)
  have Y2 : Hid (((w.alloc (.cells #[.int .i64 0, .string ⟨#[]⟩, .int .i64 0, .int .i64 o, .slice (some ⟨g, 0, none⟩) 2 c] 57)).alloc (.cells #[.int .i64 k1, .string k2, .int .i64 k3, .int .i64 k4, .slice k5 k6 k7] 57)).heap[M + 1]? = some (.cells #[.int .i64 k1, .string k2, .int .i64 k3, .int .i64 k4, .slice k5 k6 k7] 57 (0, 0))) := Lib.hid (by
    have h9 := X2.out
    rwa [show (w.alloc (.cells #[.int .i64 0, .string ⟨#[]⟩, .int .i64 0, .int .i64 o, .slice (some ⟨g, 0, none⟩) 2 c] 57)).heap.size = M + 1 by simp [hM]] at h9)
  rw [hM] at B2
  have HK := Lib.hid hk
  clear f0 f1 f2 f3 f4 X1 X2 B1 hM hk
  have MX := HM.out
  go_enter Tryd.func62, Tryd.ntmps62
  go_wp2_with fail
  refine (ci _).mono ?_
  generalize World.alloc (World.alloc w _) _ = W0 at *
  rintro e w3 ⟨rfl, hb3⟩
  have B3 : Hid (Below M w w3) := Lib.hid (B2.out.trans (hb3.mono (by rw [S2.out]; omega)))
  have z1 := (hb3.block M (by rw [S2.out]; omega)).trans Y1.out
  have z2 := (hb3.block (M + 1) (by rw [S2.out]; omega)).trans Y2.out
  obtain ⟨p0, p1, p2, p3, p4⟩ := cells5 z1
  obtain ⟨q0, q1, q2, q3, q4⟩ := cells5 z2
  clear hb3 z1 z2 ci e0 e1 e2 e3 e4 MX
  cases k with
  | leaf t =>
    simp only [X.isOp]
    go_wp2_with fail
    go_ret
    exact ⟨rfl, by rw [HM.out]; exact B3.out⟩
  | op p a b =>
    obtain ⟨g9, c9, va, vb, hv, hp, _⟩ := HK.out
    obtain rfl : k4 = (p : Int) := congrArg XV.op hv
    have cl := fun W => level_calls o ho W
    have cp := fun W => level_calls p hp W
    have DF : Hid (wrapB o 1 (.op p a b) = ((lvl p == 1 && lvl o == 2) || ((1 : Nat) == 1 && lvl p == lvl o))) := Lib.hid rfl
    have BQ : Hid (∀ q, Below M w (w3.drewN q)) := Lib.hid (fun q => below_drewN B3.out q)
    simp only [X.isOp]
    clear HK hv B3
    rcases lvl_two ho with ha | ha <;> rcases lvl_two hp with hb | hb
    · rw [ha, hb] at DF
      have c1 : ∀ W, Calls Tryd.prog 70 #[.int .i64 o] W fun e w' => e = .returned (.int .i64 1) ∧ w' = W := fun W => (cl W).mono fun e w' h => ⟨by rw [h.1, ha]; rfl, h.2.symm⟩
      have c2 : ∀ W, Calls Tryd.prog 70 #[.int .i64 p] W fun e w' => e = .returned (.int .i64 1) ∧ w' = W := fun W => (cp W).mono fun e w' h => ⟨by rw [h.1, hb]; rfl, h.2.symm⟩
      clear ha hb cl cp
      go_wp2_with fail
      go_quiet (first | (with_reducible exact Calls.quiet_of_same (c1 _)) | (with_reducible exact Calls.quiet_of_same (c2 _)))
      go_wp2_with fail
      go_ret
      exact ⟨by rw [DF.out]; rfl, by rw [HM.out]; exact BQ.out _⟩
    · rw [ha, hb] at DF
      have c1 : ∀ W, Calls Tryd.prog 70 #[.int .i64 o] W fun e w' => e = .returned (.int .i64 1) ∧ w' = W := fun W => (cl W).mono fun e w' h => ⟨by rw [h.1, ha]; rfl, h.2.symm⟩
      have c2 : ∀ W, Calls Tryd.prog 70 #[.int .i64 p] W fun e w' => e = .returned (.int .i64 2) ∧ w' = W := fun W => (cp W).mono fun e w' h => ⟨by rw [h.1, hb]; rfl, h.2.symm⟩
      clear ha hb cl cp
      go_wp2_with fail
      go_quiet (first | (with_reducible exact Calls.quiet_of_same (c1 _)) | (with_reducible exact Calls.quiet_of_same (c2 _)))
      go_wp2_with fail
      go_ret
      exact ⟨by rw [DF.out]; rfl, by rw [HM.out]; exact BQ.out _⟩
    · rw [ha, hb] at DF
      have c1 : ∀ W, Calls Tryd.prog 70 #[.int .i64 o] W fun e w' => e = .returned (.int .i64 2) ∧ w' = W := fun W => (cl W).mono fun e w' h => ⟨by rw [h.1, ha]; rfl, h.2.symm⟩
      have c2 : ∀ W, Calls Tryd.prog 70 #[.int .i64 p] W fun e w' => e = .returned (.int .i64 1) ∧ w' = W := fun W => (cp W).mono fun e w' h => ⟨by rw [h.1, hb]; rfl, h.2.symm⟩
      clear ha hb cl cp
      go_wp2_with fail
      go_quiet (first | (with_reducible exact Calls.quiet_of_same (c1 _)) | (with_reducible exact Calls.quiet_of_same (c2 _)))
      go_wp2_with fail
      go_ret
      exact ⟨by rw [DF.out]; rfl, by rw [HM.out]; exact BQ.out _⟩
    · rw [ha, hb] at DF
      have c1 : ∀ W, Calls Tryd.prog 70 #[.int .i64 o] W fun e w' => e = .returned (.int .i64 2) ∧ w' = W := fun W => (cl W).mono fun e w' h => ⟨by rw [h.1, ha]; rfl, h.2.symm⟩
      have c2 : ∀ W, Calls Tryd.prog 70 #[.int .i64 p] W fun e w' => e = .returned (.int .i64 2) ∧ w' = W := fun W => (cp W).mono fun e w' h => ⟨by rw [h.1, hb]; rfl, h.2.symm⟩
      clear ha hb cl cp
      go_wp2_with fail
      go_quiet (first | (with_reducible exact Calls.quiet_of_same (c1 _)) | (with_reducible exact Calls.quiet_of_same (c2 _)))
      go_wp2_with fail
      go_ret
      exact ⟨by rw [DF.out]; rfl, by rw [HM.out]; exact BQ.out _⟩
end Go.Proofs.YtaglbeokecbihaaDoor
