import Derived.Test.YtepkmhcchmladaaSg10
/- Contracts of slices.EqualFunc over columns, and of Same. -/
namespace Go.Proofs.Ytepkmhcchmladaa
open Go.RowKit
set_option linter.unusedVariables false
set_option linter.unusedSimpArgs false

theorem same1_calls (a b : Option Addr) (ca cb : Nat) (xs ys : List Int) (w : World) (ha : Row w a xs) (hb : Row w b ys) (hx : xs.length ≤ 1000000) (hy : ys.length ≤ 1000000) :
    Calls Try.prog 53 #[.slice a xs.length ca, .slice b ys.length cb] w (Quiet (.bool (decide (xs = ys))) w) := by
  have C := equal_calls a b ca cb xs ys w ha hb hx hy
  clear ha hb
  go_enter Try.func53, Try.ntmps53
  go_wp2_with (first | (go_at_call 47; refine C.mono ?_; rintro e w' ⟨rfl, q, rfl⟩))
  go_ret
  exact ⟨rfl, q, rfl⟩
theorem RRow.drewN {w : World} {a : Option Addr} {K : List RV} (h : RRow w a K) (n : Nat) : RRow (w.drewN n) a K := h.below (below_drewN (Below.refl _ _) n)

set_option maxRecDepth 100000 in
set_option maxHeartbeats 2000000 in
theorem equalFunc_calls (a b : Option Addr) (ca cb : Nat) (K M : List RV) (w : World) (ha : RRow w a K) (hb : RRow w b M) (hK : K.length ≤ 1000000) (hM : M.length ≤ 1000000) (hk : ∀ x ∈ K, x.2.1.length ≤ 1000000) (hm : ∀ x ∈ M, x.2.1.length ≤ 1000000) :
    Calls Try.prog 52 #[.slice a K.length ca, .slice b M.length cb, .func (.func 53) #[] #[]] w (Quiet (.bool (decide (K.map (·.2.1) = M.map (·.2.1)))) w) := by
  have HA := Lib.hid ha
  have HB := Lib.hid hb
  have H1 := Lib.hid hk
  have H2 := Lib.hid hm
  clear ha hb hk hm
  by_cases hl : K.length = M.length
  · have HL := Lib.hid hl
    have t0 : ((K.length : Int) != (M.length : Int)) = false := by simp [hl]
    clear hl
    go_enter Try.func52, Try.ntmps52
    go_wp2_with fail
    go_loopw [17] (fun s wr => ∃ k q : Nat, s = .int .i64 k ∧ k ≤ K.length ∧ Hid ((K.take k).map (·.2.1) = (M.take k).map (·.2.1)) ∧ Hid (wr = w.drewN q)) (fun s _ => K.length - (intOf s).toNat)
    case atStart => exact ⟨0, 0, rfl, Nat.zero_le _, Lib.hid rfl, Lib.hid rfl⟩
    case round =>
      obtain ⟨k, q, rfl, h1, HE, HW⟩ := hrel
      by_cases hlt : k < K.length
      · have hlt2 : k < M.length := by rw [← HL.out]; exact hlt
        obtain ⟨b1, off1, rfl, hb1, hc1, hr1, _⟩ := (show RRow wr a K by rw [HW.out]; exact HA.out.drewN q).at hlt
        obtain ⟨b2, off2, rfl, hb2, hc2, hr2, _⟩ := (show RRow wr b M by rw [HW.out]; exact HB.out.drewN q).at hlt2
        have l1 := H1.out _ (atV_mem hlt)
        have l2 := H2.out _ (atV_mem hlt2)
        have cc := same1_calls (atV K k).1 (atV M k).1 (atV K k).2.2 (atV M k).2.2 _ _ wr hr1 hr2 l1 l2
        have T1 : Hid (K.take (k + 1) = K.take k ++ [atV K k]) := Lib.hid (by rw [List.take_succ_eq_append_getElem hlt, atV_eq hlt])
        have T2 : Hid (M.take (k + 1) = M.take k ++ [atV M k]) := Lib.hid (by rw [List.take_succ_eq_append_getElem hlt2, atV_eq hlt2])
        clear hr1 hr2 l1 l2
        by_cases e1 : (atV K k).2.1 = (atV M k).2.1
        · have HF : Hid ((K.take (k + 1)).map (·.2.1) = (M.take (k + 1)).map (·.2.1)) := Lib.hid (by rw [T1.out, T2.out, List.map_append, List.map_append, HE.out]; simp [e1])
          rw [decide_eq_true e1] at cc
          clear e1
          go_wp2_with fail
          refine cc.mono ?_
          rintro e w2 ⟨rfl, q2, hw2⟩
          have HW2 : Hid (w2 = w.drewN (q + q2)) := Lib.hid (by rw [hw2]; exact drewM HW.out)
          clear cc hw2 hc1 hc2
          go_wp2_with fail
          go_roundw
          case rel => exact ⟨k + 1, q + q2, by go_num, by omega, HF, HW2⟩
          case measure => simp [intOf]; omega
        · have HF := Lib.hid (show decide (K.map (·.2.1) = M.map (·.2.1)) = false from decide_eq_false (fun e => e1 (by
            have := congrArg (fun l => l[k]?) e
            simp only [List.getElem?_map, List.getElem?_eq_getElem hlt, List.getElem?_eq_getElem hlt2, Option.map_some, Option.some.injEq] at this
            rw [atV_eq hlt, atV_eq hlt2]; exact this)))
          rw [decide_eq_false e1] at cc
          clear e1
          go_wp2_with fail
          refine cc.mono ?_
          rintro e w2 ⟨rfl, q2, hw2⟩
          have HW2 : Hid (w2 = w.drewN (q + q2)) := Lib.hid (by rw [hw2]; exact drewM HW.out)
          clear cc hw2 hc1 hc2
          go_wp2_with fail
          go_ret
          exact ⟨ret_b HF.out.symm, _, HW2.out⟩
      · have HF := Lib.hid (show decide (K.map (·.2.1) = M.map (·.2.1)) = true from decide_eq_true (by
          have := HE.out
          rw [List.take_of_length_le (by omega), List.take_of_length_le (by rw [← HL.out]; omega)] at this
          exact this))
        go_wp2_with fail
        go_ret
        exact ⟨ret_b HF.out.symm, _, HW.out⟩
  · have t0 : ((K.length : Int) != (M.length : Int)) = true := by simp; omega
    have HF := Lib.hid (show decide (K.map (·.2.1) = M.map (·.2.1)) = false from decide_eq_false (fun e => hl (by have := congrArg List.length e; simpa using this)))
    go_enter Try.func52, Try.ntmps52
    go_wp2_with fail
    go_ret
    exact ⟨ret_b HF.out.symm, 0, rfl⟩

theorem cols_eq {xs ys : List (List Int)} {w1 w2 : Nat} (h1 : ∀ r ∈ xs, r.length = w1) (h2 : ∀ r ∈ ys, r.length = w2) (hl : xs.length = ys.length) (h0 : 0 < xs.length) : colsOf w1 xs = colsOf w2 ys ↔ xs = ys := by
  constructor
  · intro e
    have hw : w1 = w2 := by have := congrArg List.length e; simpa [colsOf] using this
    subst hw
    apply List.ext_getElem hl
    intro i hi1 hi2
    have l1 := h1 _ (List.getElem_mem hi1)
    have l2 := h2 _ (List.getElem_mem hi2)
    apply List.ext_getElem (by omega)
    intro k hk1 hk2
    have := congrArg (fun l => (l[k]?).map (fun c => c[i]?)) e
    simp [colsOf, colOf, show k < w1 by omega, hi1, hi2, hk1, hk2] at this
    exact this
  · intro e
    subst e
    have m := List.getElem_mem (l := xs) (n := 0) h0
    have : w1 = w2 := by rw [← h1 _ m, ← h2 _ m]
    rw [this]

set_option maxRecDepth 100000 in
set_option maxHeartbeats 2000000 in
theorem same_calls {w : World} {p o : Option Addr} {w1 w2 : Nat} {xs ys : List (List Int)} (h : Seg w p w1 xs) (h' : Seg w o w2 ys) (hx : xs.length ≤ 1000000) (hy : ys.length ≤ 1000000) (hw1 : w1 ≤ 1000) (hw2 : w2 ≤ 1000) :
    Calls Try.prog 24 #[.pointer p, .pointer o] w (Quiet (.bool (decide (xs = ys))) w) := by
  have c1 := segLen_calls h
  have c2 := segLen_calls h'
  by_cases hl : xs.length = ys.length
  · have t0 : ((xs.length : Int) != (ys.length : Int)) = false := by simp [hl]
    by_cases h0 : xs.length = 0
    · obtain rfl : xs = [] := List.eq_nil_of_length_eq_zero h0
      obtain rfl : ys = [] := List.eq_nil_of_length_eq_zero (by rw [← hl]; rfl)
      clear h h' h0 hl
      go_enter Try.func24, Try.ntmps24
      go_wp2_with (first | (go_at_call_of 12 (Value.pointer p); refine c1.mono ?_; rintro e w' ⟨rfl, rfl⟩) | (go_at_call_of 12 (Value.pointer o); refine c2.mono ?_; rintro e w' ⟨rfl, rfl⟩))
      go_ret
      exact ⟨rfl, 0, rfl⟩
    · obtain ⟨_, hr1, ⟨_, _, h9⟩ | ⟨g, a, n, c, rfl, hg, hr⟩⟩ := h
      · rw [h9] at h0; simp at h0
      · obtain ⟨_, hr2, ⟨_, _, h9⟩ | ⟨g', a', n', c', rfl, hg', hr'⟩⟩ := h'
        · rw [hl, h9] at h0; simp at h0
        · rcases hr with h9 | ⟨rfl, K, hK, hR⟩
          · rw [h9] at h0; simp at h0
          · rcases hr' with h9 | ⟨rfl, K', hK', hR'⟩
            · rw [hl, h9] at h0; simp at h0
            · have lK : K.length = n := by have := congrArg List.length hK; simpa [colsOf] using this
              have lK' : K'.length = n' := by have := congrArg List.length hK'; simpa [colsOf] using this
              have bK : ∀ x ∈ K, x.2.1.length ≤ 1000000 := fun x hx => by
                have : x.2.1 ∈ colsOf n xs := by rw [← hK]; exact List.mem_map.2 ⟨x, hx, rfl⟩
                obtain ⟨k, _, e⟩ := List.mem_map.1 this
                rw [← e, colOf_len]; omega
              have bK' : ∀ x ∈ K', x.2.1.length ≤ 1000000 := fun x hx => by
                have : x.2.1 ∈ colsOf n' ys := by rw [← hK']; exact List.mem_map.2 ⟨x, hx, rfl⟩
                obtain ⟨k, _, e⟩ := List.mem_map.1 this
                rw [← e, colOf_len]; omega
              have ce : ∀ q, Calls Try.prog 52 #[.slice a n c, .slice a' n' c', .func (.func 53) #[] #[]] (w.drewN q) (Quiet (.bool (decide (xs = ys))) (w.drewN q)) := fun q => by
                have := equalFunc_calls a a' c c' K K' (w.drewN q) (hR.drewN q) (hR'.drewN q) (by omega) (by omega) bK bK'
                rw [lK, lK', hK, hK'] at this
                have e : decide (colsOf n xs = colsOf n' ys) = decide (xs = ys) := by
                  rw [decide_eq_decide]; exact cols_eq hr1 hr2 hl (by omega)
                rw [e] at this
                exact this
              have d1 := (segCells hg).2.2
              have d2 := (segCells hg').2.2
              have t1 : ((xs.length : Int) == 0) = false := beq_eq_false_iff_ne.2 (by omega)
              clear hg hg' hK hK' hR hR' bK bK' lK lK' hr1 hr2
              go_enter Try.func24, Try.ntmps24
              go_wp2_with (first | (go_at_call_of 12 (Value.pointer (some ⟨g, 0, none⟩)); refine c1.mono ?_; rintro e w' ⟨rfl, rfl⟩) | (go_at_call_of 12 (Value.pointer (some ⟨g', 0, none⟩)); refine c2.mono ?_; rintro e w' ⟨rfl, rfl⟩))
              go_quiet ((exact Calls.quiet_of (ce _)))
              go_wp2_with fail
              go_ret
              exact ⟨rfl, _, rfl⟩
  · have t0 : ((xs.length : Int) != (ys.length : Int)) = true := by simp; omega
    have HF := Lib.hid (show decide (xs = ys) = false from decide_eq_false (fun e => hl (by rw [e])))
    clear h h'
    go_enter Try.func24, Try.ntmps24
    go_wp2_with (first | (go_at_call_of 12 (Value.pointer p); refine c1.mono ?_; rintro e w' ⟨rfl, rfl⟩) | (go_at_call_of 12 (Value.pointer o); refine c2.mono ?_; rintro e w' ⟨rfl, rfl⟩))
    go_ret
    exact ⟨ret_b HF.out.symm, 0, rfl⟩
end Go.Proofs.Ytepkmhcchmladaa
