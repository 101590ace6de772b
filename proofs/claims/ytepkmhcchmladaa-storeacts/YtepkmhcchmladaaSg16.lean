import Derived.Test.YtepkmhcchmladaaSg12
/- Contracts of compare and match: rows of two relations. -/
namespace Go.Proofs.Ytepkmhcchmladaa
open Go.RowKit
set_option linter.unusedVariables false
set_option linter.unusedSimpArgs false

theorem Seg.drewN {w : World} {p : Option Addr} {wd : Nat} {rs : List (List Int)} (h : Seg w p wd rs) (n : Nat) : Seg (w.drewN n) p wd rs := h.below (below_drewN (Below.refl _ _) n)
/-- A relation with rows: its block, its columns. -/
theorem Seg.parts {w : World} {p : Option Addr} {wd : Nat} {rs : List (List Int)} (h : Seg w p wd rs) (h0 : 0 < rs.length) :
    ∃ g a c K, p = some ⟨g, 0, none⟩ ∧ w.heap[g]? = some (.cells #[.int .i64 wd, .int .i64 rs.length, .slice a wd c] 61 (0, 0)) ∧ K.map (·.2.1) = colsOf wd rs ∧ RRow w a K := by
  obtain ⟨_, _, ⟨_, _, h9⟩ | ⟨g, a, n, c, rfl, hg, hr⟩⟩ := h
  · rw [h9] at h0; simp at h0
  · rcases hr with h9 | ⟨rfl, K, hK, hR⟩
    · rw [h9] at h0; simp at h0
    · exact ⟨g, a, c, K, rfl, hg, hK, hR⟩

set_option maxRecDepth 100000 in
set_option maxHeartbeats 4000000 in
theorem segCompare_calls {w : World} {p o : Option Addr} {wd : Nat} {xs ys : List (List Int)} (h : Seg w p wd xs) (h' : Seg w o wd ys) (i j : Nat) (hi : i < xs.length) (hj : j < ys.length) (hwd : wd ≤ 1000) (hx : xs.length ≤ 1000000) (hy : ys.length ≤ 1000000) :
    Calls Try.prog 76 #[.pointer p, .int .i64 i, .pointer o, .int .i64 j] w (Quiet (.int .i64 (cmpS (rowAt xs i) (rowAt ys j))) w) := by
  have l1 := h.2.1 _ (rowAt_mem hi)
  have l2 := h'.2.1 _ (rowAt_mem hj)
  obtain ⟨g, a, c, K, rfl, hg, hK, hR⟩ := h.parts (by omega)
  obtain ⟨g', a', c', K', rfl, hg', hK', hR'⟩ := h'.parts (by omega)
  have d1 := (segCells hg).2.2
  have d2 := (segCells hg').2.2
  have HK := Lib.hid hK
  have HR := Lib.hid hR
  have HK' := Lib.hid hK'
  have HR' := Lib.hid hR'
  have L1 := Lib.hid l1
  have L2 := Lib.hid l2
  clear hg hg' hK hK' hR hR' h h' l1 l2
  go_enter Try.func76, Try.ntmps76
  go_wp2_with fail
  go_loopw [17] (fun s wr => ∃ k q : Nat, s = .int .i64 k ∧ k ≤ wd ∧ Hid (cmpR (rowAt xs i) (rowAt ys j) = cmpR ((rowAt xs i).drop k) ((rowAt ys j).drop k)) ∧ Hid (wr = w.drewN q)) (fun s _ => wd - (intOf s).toNat)
  case atStart => exact ⟨0, 0, rfl, Nat.zero_le _, Lib.hid rfl, Lib.hid rfl⟩
  case round =>
    obtain ⟨k, q, rfl, hk, HE, HW⟩ := hrel
    by_cases hlt : k < wd
    · obtain ⟨_, b1, off1, xa, xc, rfl, hb1, hc1, hr1, _⟩ := colAt HK.out (show RRow wr a K by rw [HW.out]; exact HR.out.drewN q) hlt
      obtain ⟨_, b2, off2, ya, yc, rfl, hb2, hc2, hr2, _⟩ := colAt HK'.out (show RRow wr a' K' by rw [HW.out]; exact HR'.out.drewN q) hlt
      obtain ⟨b3, off3, rfl, hb3, hc3⟩ := hr1.at (k := i) (by rw [colOf_len]; exact hi)
      obtain ⟨b4, off4, rfl, hb4, hc4⟩ := hr2.at (k := j) (by rw [colOf_len]; exact hj)
      rw [colOf_at hi] at hc3
      rw [colOf_at hj] at hc4
      have d2r : wr.cell? ⟨g', 2, none⟩ = some (.slice (some ⟨b2, off2, none⟩) wd c') := by rw [HW.out]; exact d2
      have ST := Lib.hid (cmpR_step (a := rowAt xs i) (b := rowAt ys j) (k := k) (by rw [L1.out]; exact hlt) (by rw [L2.out]; exact hlt))
      clear hr1 hr2
      generalize (rowAt xs i)[k]?.getD 0 = x at *
      generalize (rowAt ys j)[k]?.getD 0 = y at *
      have q1 : (i : Int) < (xs.length : Int) := by omega
      have q2 : (0 : Int) ≤ (i : Int) := by omega
      have q3 : (j : Int) < (ys.length : Int) := by omega
      have q4 : (0 : Int) ≤ (j : Int) := by omega
      have q5 : (k : Int) < (wd : Int) := by omega
      have q6 : (0 : Int) ≤ (k : Int) := by omega
      obtain ⟨cv, hcv⟩ : ∃ cv, cmp3 x y = cv := ⟨_, rfl⟩
      have cc : ∀ W, Calls Try.prog 72 #[.int .i64 x, .int .i64 y] W fun e w' => e = .returned (.int .i64 cv) ∧ w' = W := fun W => by rw [← hcv]; exact (cmp_calls x y W).mono fun _ _ h => ⟨h.1, h.2.symm⟩
      unfold cmp3 at hcv
      by_cases e1 : x < y
      · rw [if_pos e1] at hcv
        subst hcv
        have HF := Lib.hid (show cmpS (rowAt xs i) (rowAt ys j) = -1 by unfold cmpS; rw [HE.out, ST.out, if_pos e1]; rfl)
        clear e1
        go_wp2_with fail
        go_quiet ((exact Calls.quiet_of_same (cc _)))
        go_wp2_with fail
        go_ret
        exact ⟨ret_i HF.out.symm, _, drewM HW.out⟩
      · rw [if_neg e1] at hcv
        by_cases e2 : y < x
        · rw [if_pos e2] at hcv
          subst hcv
          have HF := Lib.hid (show cmpS (rowAt xs i) (rowAt ys j) = 1 by unfold cmpS; rw [HE.out, ST.out, if_neg e1, if_pos e2]; rfl)
          clear e1 e2
          go_wp2_with fail
          go_quiet ((exact Calls.quiet_of_same (cc _)))
          go_wp2_with fail
          go_ret
          exact ⟨ret_i HF.out.symm, _, drewM HW.out⟩
        · rw [if_neg e2] at hcv
          subst hcv
          have HF : Hid (cmpR (rowAt xs i) (rowAt ys j) = cmpR ((rowAt xs i).drop (k + 1)) ((rowAt ys j).drop (k + 1))) := Lib.hid (by rw [HE.out, ST.out, if_neg e1, if_neg e2])
          clear e1 e2
          go_wp2_with fail
          go_quiet ((exact Calls.quiet_of_same (cc _)))
          go_wp2_with fail
          go_roundw
          case rel => exact ⟨k + 1, _, by go_num, by omega, HF, Lib.hid (drewM HW.out)⟩
          case measure => simp [intOf]; omega
    · have HF := Lib.hid (show cmpS (rowAt xs i) (rowAt ys j) = 0 by
        unfold cmpS
        rw [HE.out, List.drop_eq_nil_of_le (by rw [L1.out]; omega), List.drop_eq_nil_of_le (by rw [L2.out]; omega)]; rfl)
      go_wp2_with fail
      go_ret
      exact ⟨ret_i HF.out.symm, _, HW.out⟩

theorem cmpS_lt (a b : List Int) : cmpS a b < 0 ↔ cmpR a b < 0 := by
  unfold cmpS; by_cases h1 : cmpR a b < 0
  · rw [if_pos h1]; exact ⟨fun _ => h1, fun _ => by omega⟩
  · rw [if_neg h1]; by_cases h2 : 0 < cmpR a b
    · rw [if_pos h2]; exact ⟨fun h => by omega, fun h => by omega⟩
    · rw [if_neg h2]; exact ⟨fun h => by omega, fun h => by omega⟩
theorem cmpS_eq (a b : List Int) : cmpS a b = 0 ↔ a = b := by
  unfold cmpS; by_cases h1 : cmpR a b < 0
  · rw [if_pos h1]; exact ⟨fun h => by omega, fun h => by rw [h, cmpR_self] at h1; omega⟩
  · rw [if_neg h1]; by_cases h2 : 0 < cmpR a b
    · rw [if_pos h2]; exact ⟨fun h => by omega, fun h => by rw [h, cmpR_self] at h2; omega⟩
    · rw [if_neg h2]; exact ⟨fun _ => cmpR_eq (by omega), fun _ => rfl⟩

/-- match: is there a row i, and is it the row j of the other? -/
theorem match_calls {w : World} {p o : Option Addr} {wd : Nat} {xs ys : List (List Int)} (h : Seg w p wd xs) (h' : Seg w o wd ys) (i j : Nat) (hx0 : 0 < xs.length) (hj : j < ys.length) (hwd : wd ≤ 1000) (hx : xs.length ≤ 1000000) (hy : ys.length ≤ 1000000) (hi : i ≤ 1000000) :
    Calls Try.prog 57 #[.pointer p, .int .i64 i, .pointer o, .int .i64 j] w (Quiet (.bool (decide (i < xs.length ∧ rowAt xs i = rowAt ys j))) w) := by
  by_cases hil : i < xs.length
  · have cc := segCompare_calls h h' i j hil hj hwd hx hy
    obtain ⟨g, a, c, K, rfl, hg, _, _⟩ := h.parts hx0
    have d1 := (segCells hg).2.1
    clear hg h h'
    by_cases he : rowAt xs i = rowAt ys j
    · have R : Hid (decide (i < xs.length ∧ rowAt xs i = rowAt ys j) = true) := Lib.hid (decide_eq_true ⟨hil, he⟩)
      rw [(cmpS_eq _ _).2 he] at cc
      clear he
      go_enter Try.func57, Try.ntmps57
      go_wp2_with (first | (go_at_call 76; refine cc.mono ?_; rintro e w2 ⟨rfl, q, rfl⟩))
      go_ret
      exact ⟨ret_b R.out.symm, _, rfl⟩
    · have R : Hid (decide (i < xs.length ∧ rowAt xs i = rowAt ys j) = false) := Lib.hid (decide_eq_false (fun h => he h.2))
      obtain ⟨cv, hcv⟩ : ∃ cv, cmpS (rowAt xs i) (rowAt ys j) = cv := ⟨_, rfl⟩
      rw [hcv] at cc
      have t1 : (cv == 0) = false := beq_eq_false_iff_ne.2 (fun h => he ((cmpS_eq _ _).1 (by rw [hcv, h])))
      clear hcv he
      go_enter Try.func57, Try.ntmps57
      go_wp2_with (first | (go_at_call 76; refine cc.mono ?_; rintro e w2 ⟨rfl, q, rfl⟩))
      go_ret
      exact ⟨ret_b R.out.symm, _, rfl⟩
  · obtain ⟨g, a, c, K, rfl, hg, _, _⟩ := h.parts hx0
    have d1 := (segCells hg).2.1
    have R : Hid (decide (i < xs.length ∧ rowAt xs i = rowAt ys j) = false) := Lib.hid (decide_eq_false (fun h => hil h.1))
    have t1 : decide (i < xs.length) = false := decide_eq_false hil
    clear hg h h' hil
    go_enter Try.func57, Try.ntmps57
    go_wp2_with fail
    go_ret
    exact ⟨ret_b R.out.symm, 0, rfl⟩
end Go.Proofs.Ytepkmhcchmladaa
