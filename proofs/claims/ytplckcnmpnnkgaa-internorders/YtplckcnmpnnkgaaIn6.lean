/- The statement InternOrders, walked. -/
import Derived.Test.YtplckcnmpnnkgaaIn5
namespace Go.Proofs.Ytplckcnmpnnkgaa
open Go.RowKit Go.Maps
set_option linter.unusedVariables false
set_option linter.unusedSimpArgs false

theorem in_in {ts : List ByteArray} {a : Int} (h : inT ts a = true) : decide ((0 : Int) ≤ a) = true ∧ decide (a < (ts.length : Int)) = true := by
  simpa [inT] using h
theorem in_out {ts : List ByteArray} {a : Int} (h : inT ts a = false) : decide ((0 : Int) ≤ a) = false ∨ (decide ((0 : Int) ≤ a) = true ∧ decide (a < (ts.length : Int)) = false) := by
  unfold inT at h
  cases h1 : decide ((0 : Int) ≤ a)
  · exact .inl rfl
  · rw [h1, Bool.true_and] at h; exact .inr ⟨rfl, h⟩
theorem cmpS_is (s t : ByteArray) : cmpS s t = -1 ∨ cmpS s t = 0 ∨ cmpS s t = 1 := by unfold cmpS; split; exact .inl rfl; split; exact .inr (.inl rfl); exact .inr (.inr rfl)
theorem cmpT_tt {ts : List ByteArray} {a b : Int} (ha : inT ts a = true) (hb : inT ts b = true) : cmpT ts a b = -1 ∨ cmpT ts a b = 0 ∨ cmpT ts a b = 1 := by
  unfold cmpT; rw [if_pos ha, if_pos hb]; exact cmpS_is _ _
theorem cmpT_tf {ts : List ByteArray} {a b : Int} (ha : inT ts a = true) (hb : inT ts b = false) : cmpT ts a b = 1 := by
  unfold cmpT; rw [if_pos ha, if_neg (by simp [hb])]
theorem cmpT_ft {ts : List ByteArray} {a b : Int} (ha : inT ts a = false) (hb : inT ts b = true) : cmpT ts a b = -1 := by
  unfold cmpT; rw [if_neg (by simp [ha]), if_pos hb]
theorem cmpT_ff {ts : List ByteArray} {a b : Int} (ha : inT ts a = false) (hb : inT ts b = false) : cmpT ts a b = cmpI a b := by
  unfold cmpT; rw [if_neg (by simp [ha]), if_neg (by simp [hb])]
theorem ff_cases {ts : List ByteArray} {a b : Int} (ha : inT ts a = false) (hb : inT ts b = false) :
    (Hid (cmpT ts a b = -1) ∧ Hid (cmpT ts b a = 1) ∧ decide (a < b) = true ∧ decide (b < a) = false) ∨ (Hid (cmpT ts a b = 0) ∧ Hid (cmpT ts b a = 0) ∧ decide (a < b) = false ∧ decide (b < a) = false) ∨
    (Hid (cmpT ts a b = 1) ∧ Hid (cmpT ts b a = -1) ∧ decide (a < b) = false ∧ decide (b < a) = true) := by
  rw [cmpT_ff ha hb, cmpT_ff hb ha]
  unfold cmpI
  rcases Int.lt_trichotomy a b with h | h | h
  · left; rw [if_pos h, if_neg (by omega), if_pos h]; exact ⟨Lib.hid rfl, Lib.hid rfl, by simpa using h, by simp; omega⟩
  · subst h; right; left; exact ⟨Lib.hid (by rw [if_neg (by omega), if_neg (by omega)]), Lib.hid (by rw [if_neg (by omega), if_neg (by omega)]), by simp, by simp⟩
  · right; right; rw [if_neg (by omega), if_pos h, if_pos h]; exact ⟨Lib.hid rfl, Lib.hid rfl, by simp; omega, by simpa using h⟩
theorem ft_case {ts : List ByteArray} {a b : Int} (ha : inT ts a = false) (hb : inT ts b = true) : Hid (cmpT ts a b = -1) ∧ Hid (cmpT ts b a = 1) :=
  ⟨Lib.hid (cmpT_ft ha hb), Lib.hid (cmpT_tf hb ha)⟩
theorem tt_cases {ts : List ByteArray} {a b : Int} (ha : inT ts a = true) (hb : inT ts b = true) :
    (Hid (cmpT ts a b = -1) ∧ Hid (cmpT ts b a = 1)) ∨ (Hid (cmpT ts a b = 0) ∧ Hid (cmpT ts b a = 0)) ∨ (Hid (cmpT ts a b = 1) ∧ Hid (cmpT ts b a = -1)) := by
  have hn := cmpT_neg ts a b
  rcases cmpT_tt ha hb with h | h | h
  · exact .inl ⟨Lib.hid h, Lib.hid (by omega)⟩
  · exact .inr (.inl ⟨Lib.hid h, Lib.hid (by omega)⟩)
  · exact .inr (.inr ⟨Lib.hid h, Lib.hid (by omega)⟩)
theorem cmp_is {N : Nat → Prop} {w : World} {g : Nat} {ts : List ByteArray} (h : Tab N w g ts) {a b c : Int} (hl : ts.length ≤ 1000000) (hc : cmpT ts a b = c) :
    Calls Try.prog 16 #[.pointer (some ⟨g, 0, none⟩), .int .i64 a, .int .i64 b] w fun e w' => e = .returned (.int .i64 c) ∧ w = w' := hc ▸ compare_calls h a b hl

set_option maxRecDepth 100000 in
set_option maxHeartbeats 1000000 in
theorem orders_skip (a : Option Addr) (cap : Nat) (ss : List ByteArray) (x y : Int) (w : World) (hR : SRow w a ss) (hl : ss.length ≤ maxLen) (hsz : ∀ s ∈ ss, s.size ≤ maxLen) (h : fewB ss = false) :
    Calls Try.prog 4 #[.slice a ss.length cap, .int .i64 x, .int .i64 y] w (TrueRet w) := by
  have HS := Lib.hid hsz
  have H := Lib.hid h
  clear hsz h
  go_enter Try.func4, Try.ntmps4
  go_wp2_with fail
  refine (head_calls _).mono ?_
  rintro e w1 ⟨rfl, hb1⟩
  go_wp2_with (first | (go_at_call 8; refine (few_is _ (hR.below hb1) hl HS.out H.out).mono ?_; rintro e w' ⟨rfl, rfl⟩))
  go_ret
  exact ⟨rfl, hb1⟩

set_option maxRecDepth 100000 in
set_option maxHeartbeats 4000000 in
theorem orders_some (a : Option Addr) (cap : Nat) (ss : List ByteArray) (x y : Int) (w : World) (hR : SRow w a ss) (hf : fewB ss = true) (hx1 : -9223372036854775808 ≤ x) (hx2 : x ≤ 9223372036854775807) (hy1 : -9223372036854775808 ≤ y) (hy2 : y ≤ 9223372036854775807) :
    Calls Try.prog 4 #[.slice a ss.length cap, .int .i64 x, .int .i64 y] w (TrueRet w) := by
  obtain ⟨hl, hk60⟩ := few_sz hf
  have HK60 := Lib.hid hk60
  have HF := Lib.hid hf
  clear hk60 hf
  go_enter Try.func4, Try.ntmps4
  go_wp2_with fail
  refine (head_calls _).mono ?_
  rintro e w0 ⟨rfl, hb0⟩
  have hR0 := hR.below hb0
  clear hR
  go_wp2_with (first | (go_at_call 8; refine (few_is _ hR0 (by unfold maxLen; omega) (fun s hs => by obtain ⟨i, hi, rfl⟩ := List.getElem_of_mem hs; have := HK60.out i hi; rw [getD_at hi] at this; unfold maxLen; omega) HF.out).mono ?_; rintro e w' ⟨rfl, rfl⟩))
  refine (new_calls _).mono ?_
  rintro e w1 ⟨rfl, hw1⟩
  obtain ⟨g, hg⟩ : ∃ g, w0.heap.size = g := ⟨_, rfl⟩
  have hT1 : Tab (fun k => g ≤ k) w1 g [] := by rw [hw1, ← hg]; exact tab_new w0 _ (Nat.le_refl _)
  have hb1 : Below g w0 w1 := by rw [hw1, ← hg]; exact (Below.refl _ _).alloc (Nat.le_refl _) _
  have hK1 : Keeps (fun k => g ≤ k) w0 w1 := Keeps.of_below hb1 (fun _ h => h)
  have HG := Lib.hid hg
  rw [hg]
  clear hw1 hg hb1
  go_wp2_with fail
  go_loopw [26] (fun i wr => ∃ k : Nat, k ≤ ss.length ∧ i = .int .i64 k ∧ Tab (fun k => g ≤ k) wr g (uniq (ss.take k)) ∧ Keeps (fun k => g ≤ k) w0 wr)
    (fun i _ => ss.length - (intOf i).toNat)
  case atStart => exact ⟨0, Nat.zero_le _, rfl, hT1, hK1⟩
  case round =>
    clear hT1 hK1
    obtain ⟨k, hk, rfl, hT, hK⟩ := hrel
    have hb2r : Below w0.heap.size w0 wr := hK.below (Nat.le_refl _) (fun k hk => by rw [HG.out]; exact hk)
    by_cases hlt : k < ss.length
    · obtain ⟨b, off, rfl, hb, hcell⟩ := (hR0.below hb2r).at hlt
      have hsz := HK60.out k hlt
      have U1 := Lib.hid (uniq_take hlt)
      have hul : (uniq (ss.take k)).length ≤ 60 := Nat.le_trans (uniq_len _) (by simp; omega)
      generalize ss.getD k ByteArray.empty = s at *
      go_wp2_with fail
      refine (id_calls hT s (by unfold maxLen; omega) (by omega) (fun k hk => by have := hK.size; rw [HG.out] at this; omega)).mono ?_
      rintro e w3 ⟨rfl, hT3, hK3⟩
      have hKK := hK.trans hK3
      rw [← U1.out] at hT3
      clear hT hK3 hcell hb2r hK
      go_wp2_with fail
      go_roundw
      case rel => exact ⟨k + 1, by omega, by go_num, hT3, hKK⟩
      case measure => simp [intOf]; omega
    · obtain rfl : k = ss.length := by omega
      rw [List.take_length] at hT
      have hRr := hR0.below hb2r
      have hbel : Below w.heap.size w wr := hb0.trans (hb2r.mono hb0.size)
      clear hb2r hK hR0 hb0
      go_wp2_with fail
      refine (texts_calls _ _ ss _ hRr (by omega)).mono ?_
      rintro e w2 ⟨aA, cA, rfl, hA2, hb2, _⟩
      have hT2 := hT.below hb2
      have hbel2 : Below w.heap.size w w2 := hbel.trans (hb2.mono hbel.size)
      have hUl : (uniq ss).length ≤ 60 := Nat.le_trans (uniq_len ss) hl
      generalize uniq ss = U at *
      have HW2 := Lib.hid hbel2
      clear hT hRr hbel hb2 hbel2
      by_cases hU : U.length = 0
      · obtain rfl : U = [] := List.eq_nil_of_length_eq_zero hU
        clear hU hA2
        have hbz := HW2.out
        clear HW2
        have i1 : inT [] x = false := by unfold inT; cases h : decide ((0 : Int) ≤ x) <;> simp at h ⊢; omega
        have j1 : inT [] y = false := by unfold inT; cases h : decide ((0 : Int) ≤ y) <;> simp at h ⊢; omega
        have hq : (decide ((0 : Int) ≤ x) = true ∧ decide (x < 0) = false) ∨ decide ((0 : Int) ≤ x) = false := by
          by_cases h : (0 : Int) ≤ x
          · left; simp; omega
          · right; simpa using h
        have hr : (decide ((0 : Int) ≤ y) = true ∧ decide (y < 0) = false) ∨ decide ((0 : Int) ≤ y) = false := by
          by_cases h : (0 : Int) ≤ y
          · left; simp; omega
          · right; simpa using h
        rcases ff_cases i1 j1 with ⟨C1, C2, t1, t2⟩ | ⟨C1, C2, t1, t2⟩ | ⟨C1, C2, t1, t2⟩ <;> rcases hq with ⟨q1, q2⟩ | q1 <;> rcases hr with ⟨r1, r2⟩ | r1
        all_goals
          clear i1 j1
          go_wp2_with (first
            | (go_at_call 16; (with_reducible refine (cmp_is hT2 (by decide) C1.out).mono ?_); rintro e w' ⟨rfl, rfl⟩)
            | (go_at_call 16; (with_reducible refine (cmp_is hT2 (by decide) C2.out).mono ?_); rintro e w' ⟨rfl, rfl⟩))
          go_ret
          exact ⟨rfl, hbz⟩
      · have t0 : decide (0 < U.length) = true := by rw [decide_eq_true_eq]; omega
        go_wp2_with fail
        go_loopw [43] (fun i wx => ∃ k : Nat, k ≤ U.length ∧ i = .int .i64 k ∧ Below w2.heap.size w2 wx) (fun i _ => U.length - (intOf i).toNat)
        case atStart => exact ⟨0, Nat.zero_le _, rfl, Below.refl _ _⟩
        case round =>
          obtain ⟨k, hk, rfl, hbx⟩ := hrel
          by_cases hlt : k < U.length
          · obtain ⟨wx, rfl⟩ : ∃ x, x = wr := ⟨wr, rfl⟩
            go_wp2_with fail
            go_loopw [48] (fun j wy => ∃ l : Nat, l ≤ U.length ∧ j = .int .i64 l ∧ Below w2.heap.size w2 wy) (fun j _ => U.length - (intOf j).toNat)
            case atStart => exact ⟨0, Nat.zero_le _, rfl, hbx⟩
            case round =>
              clear hbx
              obtain ⟨l, hll, rfl, hby⟩ := hrel
              by_cases hlt2 : l < U.length
              · have hTy := hT2.below hby
                have hAy := hA2.below hby
                obtain ⟨b, off, rfl, hb, hc1⟩ := hAy.at hlt
                obtain ⟨b', off', hbb, _, hc2⟩ := hAy.at hlt2
                simp only [Option.some.injEq, Addr.mk.injEq, and_true] at hbb
                obtain ⟨rfl, rfl⟩ := hbb
                have HC : Hid (cmpT U (k : Int) (l : Int) = cmpS (U.getD k ByteArray.empty) (U.getD l ByteArray.empty)) := Lib.hid (by
                  unfold cmpT
                  rw [if_pos (by unfold inT; simp; omega), if_pos (by unfold inT; simp; omega)]
                  unfold atT; rw [Int.toNat_natCast, Int.toNat_natCast])
                generalize U.getD k ByteArray.empty = s at *
                generalize U.getD l ByteArray.empty = t at *
                have hcs : ∃ c : Int, cmpT U (k : Int) (l : Int) = c ∧ ((Op.bytesLess s.toList t.toList = true ∧ c = -1) ∨ (Op.bytesLess s.toList t.toList = false ∧ (s.toList == t.toList) = true ∧ c = 0) ∨ (Op.bytesLess s.toList t.toList = false ∧ (s.toList == t.toList) = false ∧ c = 1)) := by
                  rw [HC.out]; unfold cmpS
                  by_cases h1 : Op.bytesLess s.toList t.toList = true
                  · exact ⟨-1, if_pos h1, .inl ⟨h1, rfl⟩⟩
                  · by_cases h2 : (s.toList == t.toList) = true
                    · exact ⟨0, by rw [if_neg h1, if_pos h2], .inr (.inl ⟨by simpa using h1, h2, rfl⟩)⟩
                    · exact ⟨1, by rw [if_neg h1, if_neg h2], .inr (.inr ⟨by simpa using h1, by simpa using h2, rfl⟩)⟩
                obtain ⟨c, hcc, hcs⟩ := hcs
                have HCC := Lib.hid hcc
                clear hcc HC
                rcases hcs with ⟨h1, rfl⟩ | ⟨h1, h2, rfl⟩ | ⟨h1, h2, rfl⟩
                all_goals
                  have e1 : wr.drew.heap.size = wr.heap.size := rfl
                  clear e1
                  go_wp2_with fail
                  go_quiet (fail)
                  have hT3 : Tab (fun k => g ≤ k) (wr.drewN nq) g U := hTy
                  have hb3 : Below w2.heap.size w2 (wr.drewN nq) := below_drewN hby nq
                  have d1 : (wr.drewN nq).cell? ⟨b, off + k, none⟩ = some (.string s) := hc1
                  have d2 : (wr.drewN nq).cell? ⟨b, off + l, none⟩ = some (.string t) := hc2
                  clear hc1 hc2 hTy hby hAy
                  generalize wr.drewN nq = wq at *
                  clear nq
                  go_wp2_with fail
                  go_quiet (fail)
                  have hT4 : Tab (fun k => g ≤ k) (wq.drewN nq) g U := hT3
                  have hb4 : Below w2.heap.size w2 (wq.drewN nq) := below_drewN hb3 nq
                  clear d1 d2 hT3 hb3
                  generalize wq.drewN nq = wp at *
                  go_wp2_with (first | (go_at_call 16; refine (cmp_is hT4 (by omega) HCC.out).mono ?_; rintro e w' ⟨rfl, rfl⟩))
                  go_roundw
                  case rel => exact ⟨l + 1, by omega, by go_num, hb4⟩
                  case measure => simp [intOf]; omega
              · go_wp2_with fail
                go_roundw
                case rel => exact ⟨k + 1, by omega, by go_num, hby⟩
                case measure => simp [intOf]; omega
          · obtain ⟨wz, rfl⟩ : ∃ x, x = wr := ⟨wr, rfl⟩
            have hTz := hT2.below hbx
            have hbz : Below w.heap.size w wz := HW2.out.trans (hbx.mono HW2.out.size)
            clear hT2 hA2 HW2 hbx
            cases hix : inT U x <;> cases hiy : inT U y
            · rcases in_out hix with a1 | ⟨a1, a2⟩ <;> rcases in_out hiy with b1 | ⟨b1, b2⟩ <;> rcases ff_cases hix hiy with ⟨C1, C2, t1, t2⟩ | ⟨C1, C2, t1, t2⟩ | ⟨C1, C2, t1, t2⟩
              all_goals
                clear hix hiy
                go_wp2_with (first
                  | (go_at_call 16; (with_reducible refine (cmp_is hTz (by omega) C1.out).mono ?_); rintro e w' ⟨rfl, rfl⟩)
                  | (go_at_call 16; (with_reducible refine (cmp_is hTz (by omega) C2.out).mono ?_); rintro e w' ⟨rfl, rfl⟩))
                go_ret
                exact ⟨rfl, hbz⟩
            · obtain ⟨b1, b2⟩ := in_in hiy
              obtain ⟨C1, C2⟩ := ft_case hix hiy
              rcases in_out hix with a1 | ⟨a1, a2⟩
              all_goals
                clear hix hiy
                go_wp2_with (first
                  | (go_at_call 16; (with_reducible refine (cmp_is hTz (by omega) C1.out).mono ?_); rintro e w' ⟨rfl, rfl⟩)
                  | (go_at_call 16; (with_reducible refine (cmp_is hTz (by omega) C2.out).mono ?_); rintro e w' ⟨rfl, rfl⟩))
                go_ret
                exact ⟨rfl, hbz⟩
            · obtain ⟨a1, a2⟩ := in_in hix
              obtain ⟨C2, C1⟩ := ft_case hiy hix
              rcases in_out hiy with b1 | ⟨b1, b2⟩
              all_goals
                clear hix hiy
                go_wp2_with (first
                  | (go_at_call 16; (with_reducible refine (cmp_is hTz (by omega) C1.out).mono ?_); rintro e w' ⟨rfl, rfl⟩)
                  | (go_at_call 16; (with_reducible refine (cmp_is hTz (by omega) C2.out).mono ?_); rintro e w' ⟨rfl, rfl⟩))
                go_ret
                exact ⟨rfl, hbz⟩
            · obtain ⟨a1, a2⟩ := in_in hix
              obtain ⟨b1, b2⟩ := in_in hiy
              rcases tt_cases hix hiy with ⟨C1, C2⟩ | ⟨C1, C2⟩ | ⟨C1, C2⟩
              all_goals
                clear hix hiy
                go_wp2_with (first
                  | (go_at_call 16; (with_reducible refine (cmp_is hTz (by omega) C1.out).mono ?_); rintro e w' ⟨rfl, rfl⟩)
                  | (go_at_call 16; (with_reducible refine (cmp_is hTz (by omega) C2.out).mono ?_); rintro e w' ⟨rfl, rfl⟩))
                go_ret
                exact ⟨rfl, hbz⟩

theorem orders_walk (a : Option Addr) (cap : Nat) (ss : List ByteArray) (x y : Int) (w : World) (hR : SRow w a ss) (hl : ss.length ≤ maxLen) (hsz : ∀ s ∈ ss, s.size ≤ maxLen) (hx1 : -9223372036854775808 ≤ x) (hx2 : x ≤ 9223372036854775807) (hy1 : -9223372036854775808 ≤ y) (hy2 : y ≤ 9223372036854775807) :
    Calls Try.prog 4 #[.slice a ss.length cap, .int .i64 x, .int .i64 y] w (TrueRet w) := by
  cases hf : fewB ss
  · exact orders_skip _ _ _ _ _ _ hR hl hsz hf
  · exact orders_some _ _ _ _ _ _ hR hf hx1 hx2 hy1 hy2
end Go.Proofs.Ytplckcnmpnnkgaa
