/- Piece.Token at a sign; Piece.Token told whole. -/
import Derived.Test.YtecijhaclbbccaaDoorLxTk
namespace Go.Proofs.YtecijhaclbbccaaDoor
open Go.RowKit
set_option linter.unusedVariables false
set_option linter.unusedSimpArgs false

theorem held2 {E b : Nat} {v : Value} {W w' w'' : World} (hlt : b < E) (h : w'.cell? ⟨b, 1, none⟩ = some v ∧ Below E W w' ∧ E ≤ w'.heap.size) (hb : Below w'.heap.size w' w'') : w''.cell? ⟨b, 1, none⟩ = some v ∧ Below E W w'' ∧ E ≤ w''.heap.size :=
  ⟨(hb.cell (p := ⟨b, 1, none⟩) (Nat.lt_of_lt_of_le hlt h.2.2)).trans h.1, h.2.1.trans (hb.mono h.2.2), Nat.le_trans h.2.2 hb.size⟩
set_option maxRecDepth 100000 in
set_option maxHeartbeats 1000000 in
theorem tok_sign (K N Gp : Int) (w : World) (hk : uN K % 5 = 4) : Calls Tryd.prog 10 #[.agg #[.int .i64 K, .int .i64 N, .int .i64 Gp]] w (TokRet w ⟨5, ⟨(signs.getD (uN N % 18) []).toArray⟩, 0, 0⟩ (signs.getD (uN N % 18) [])) := by
  have k5 : wrap64 ((IntKind.u64.wrap K).tmod 5) = 4 := by have := urem K 5 (by omega) (by omega); rw [hk] at this; exact this
  have hr := urem N 6 (by omega) (by omega)
  generalize uN N % 6 = j at *
  have n6 : wrap64 ((IntKind.u64.wrap N).tmod 6) = (j : Int) := hr
  obtain ⟨tx, htx⟩ : ∃ tx : ByteArray, (⟨(signs.getD (uN N % 18) []).toArray⟩ : ByteArray) = tx := ⟨_, rfl⟩
  have HT := Lib.hid htx
  have CS : Hid (∀ W, Calls Tryd.prog 19 #[.int .i64 N] W (StrRet W tx)) := Lib.hid (fun W => by have := signs_calls N W; rw [htx] at this; exact this)
  have HZ0 := Lib.hid (tbox w #[.int .i64 K, .int .i64 N, .int .i64 Gp] 27)
  have B0 := Lib.hid (below2 w (.cells #[.int .i64 K, .int .i64 N, .int .i64 Gp] 27) (.cells #[.int .i64 0, .string ⟨#[]⟩, .int .u64 0, .int .i64 0] 31))
  have SZ0 : Hid (w.heap.size + 2 ≤ ((w.alloc (.cells #[.int .i64 K, .int .i64 N, .int .i64 Gp] 27)).alloc (.cells #[.int .i64 0, .string ⟨#[]⟩, .int .u64 0, .int .i64 0] 31)).heap.size) := Lib.hid (by simp)
  have CN : Hid (((w.alloc (.cells #[.int .i64 K, .int .i64 N, .int .i64 Gp] 27)).alloc (.cells #[.int .i64 0, .string ⟨#[]⟩, .int .u64 0, .int .i64 0] 31)).cell? ⟨w.heap.size, 1, none⟩ = some (.int .i64 N)) := Lib.hid (by
    have h1 : (w.alloc (.cells #[.int .i64 K, .int .i64 N, .int .i64 Gp] 27)).cell? ⟨w.heap.size, 1, none⟩ = some (.int .i64 N) := by rw [World.cell?_alloc_at _ _ _ _ rfl]; rfl
    have h2 := ((Below.refl (w.alloc (.cells #[.int .i64 K, .int .i64 N, .int .i64 Gp] 27)).heap.size _).alloc (Nat.le_refl _) (.cells #[.int .i64 0, .string ⟨#[]⟩, .int .u64 0, .int .i64 0] 31)).cell (p := ⟨w.heap.size, 1, none⟩) (by simp)
    exact h2.trans h1)
  clear hr htx
  obtain ⟨B, hB⟩ : ∃ B, w.heap.size = B := ⟨_, rfl⟩
  have HB := Lib.hid hB
  go_enter Tryd.func10, Tryd.ntmps10
  rw [hB] at HZ0 B0 SZ0 CN
  go_wp2_with fail
  generalize World.alloc (World.alloc w _) _ = W0 at *
  clear hB
  have CNo := CN.out
  obtain ⟨c0, c1, c2, c3, cf⟩ := cells4 HZ0.out
  go_region_with (first
    | (go_at_call 19; refine (CS.out _).mono ?_; rintro e wk ⟨rfl, hbk⟩; have hbX : Below W0.heap.size W0 wk := Below.trans (Below.drew (Below.refl _ _)) hbk; have hCN : wk.cell? ⟨B, 1, none⟩ = some (.int .i64 N) := (hbX.cell (p := ⟨B, 1, none⟩) (by have := SZ0.out; show B < W0.heap.size; omega)).trans CN.out; have hZk : zbox wk (B + 1) := HZ0.out.below hbX; obtain ⟨k0, k1, k2, k3, kf⟩ := cells4 hZk)
    | (go_at_call 19; refine (CS.out _).mono ?_; rintro e wl ⟨rfl, hbl⟩; have hZl : zbox wl (B + 1) := zbox.below hZk hbl; obtain ⟨l0, l1, l2, l3, lf⟩ := cells4 hZl)
    | (go_at_call 19; refine (CS.out _).mono ?_; rintro e wl ⟨rfl, hbl⟩))
  all_goals
    have BW : Below B w wl := B0.out.trans ((hbX.trans (Below.mono hbl hbX.size)).mono (by have := SZ0.out; omega))
    have E1 := Lib.hid (heap_set4 (y0 := .int .i64 5) (y1 := .string tx) (y2 := .int .u64 0) (y3 := .int .i64 0) hZl)
    have R1 := Lib.hid (below_set4 (g := B + 1) (y0 := .int .i64 5) (y1 := .string tx) (y2 := .int .u64 0) (y3 := .int .i64 0) BW (by omega))
    clear k0 k1 k2 k3 kf c0 c1 c2 c3 cf hbX hbk hZk hCN CNo hbl hZl BW
    go_wp2_with fail
    obtain ⟨d0, d1, d2, d3, _⟩ := cells4 E1.out
    refine bodyPost_ret (v := .tuple #[.agg #[.int .i64 5, .string tx, .int .u64 0, .int .i64 0], .string tx]) ?_ rfl ⟨by rw [HT.out], by rw [HB.out]; exact R1.out⟩
    simp [results, Tryd.results10, go_sem, d0, d1, d2, d3]
/-- Piece.Token: the token, and how it is written. -/
theorem token_calls (K N Gp : Int) (w : World) : Calls Tryd.prog 10 #[.agg #[.int .i64 K, .int .i64 N, .int .i64 Gp]] w (TokRet w (pcK (uN K % 5) (uN N)) (pcT (uN K % 5) (uN N))) := by
  have hK : uN K % 5 < 5 := Nat.mod_lt _ (by omega)
  obtain ⟨k, hk⟩ : ∃ k, uN K % 5 = k := ⟨_, rfl⟩
  rw [hk] at hK ⊢
  match k, hk, hK with
  | 0, hk, _ => exact tok_name K N Gp w hk
  | 1, hk, _ => exact tok_var K N Gp w hk
  | 2, hk, _ =>
    by_cases h5 : uN N % 6 = 5
    · exact tok_num5 K N Gp w hk h5
    · exact tok_num K N Gp w hk h5
  | 3, hk, _ => exact tok_str K N Gp w hk
  | 4, hk, _ => exact tok_sign K N Gp w hk
end Go.Proofs.YtecijhaclbbccaaDoor
