/- LexReads, walked. -/
import Derived.Test.YtecijhaclbbccaaDoorLxJ
namespace Go.Proofs.YtecijhaclbbccaaDoor
open Go.RowKit
set_option linter.unusedVariables false
set_option linter.unusedSimpArgs false

theorem tkAt_cons_succ (t : Tk) (l : List Tk) (i : Nat) : tkAt (t :: l) (i + 1) = tkAt l i := by simp [tkAt]
theorem tkAt_cons_zero (t : Tk) (l : List Tk) : tkAt (t :: l) 0 = t := rfl
/-- Rising tokens, by index. -/
theorem rising_at {n : Nat} : ∀ (L : List Tk) (q : Nat), Rising n q L → 0 < L.length ∧ (q : Int) ≤ (tkAt L 0).at' ∧ tkAt L (L.length - 1) = ⟨0, ⟨#[]⟩, 0, n⟩ ∧ ∀ i, i < L.length → 0 ≤ (tkAt L i).kind ∧ (tkAt L i).kind ≤ 5 ∧ ((tkAt L i).kind = 0 ↔ i + 1 = L.length) ∧ (tkAt L i).at' ≤ n ∧ 0 ≤ (tkAt L i).at' ∧ (0 < i → (tkAt L (i - 1)).at' < (tkAt L i).at')
  | [], q, h => h.elim
  | [t], q, h => by
    obtain ⟨rfl, hq⟩ := h
    refine ⟨by simp, by rw [tkAt_cons_zero]; show (q : Int) ≤ (n : Int); omega, rfl, fun i hi => ?_⟩
    have : i = 0 := by simpa using hi
    subst this
    rw [tkAt_cons_zero]
    refine ⟨Int.le_refl _, by show (0 : Int) ≤ 5; omega, by simp, Int.le_refl _, by show (0 : Int) ≤ (n : Int); omega, fun h => by omega⟩
  | t :: u :: L, q, ⟨p, h1, h2, h3, h4, h5, h6⟩ => by
    obtain ⟨i1, i2, i3, i4⟩ := rising_at (u :: L) (p + 1) h6
    refine ⟨by simp, by rw [tkAt_cons_zero, h1]; omega, ?_, fun i hi => ?_⟩
    · rw [show (t :: u :: L).length - 1 = ((u :: L).length - 1) + 1 by simp, tkAt_cons_succ]; exact i3
    · cases i with
      | zero =>
        rw [tkAt_cons_zero]
        refine ⟨by omega, h5, ⟨fun h => by omega, fun h => by simp at h⟩, by rw [h1]; omega, by rw [h1]; omega, fun h => by omega⟩
      | succ i =>
        rw [tkAt_cons_succ]
        have hi' : i < (u :: L).length := by simpa using hi
        obtain ⟨j1, j2, j3, j4, j5, j6⟩ := i4 i hi'
        refine ⟨j1, j2, by rw [j3]; simp, j4, j5, fun _ => ?_⟩
        cases i with
        | zero => rw [Nat.add_sub_cancel, tkAt_cons_zero, h1]; omega
        | succ i => rw [Nat.add_sub_cancel, tkAt_cons_succ]; have := j6 (by omega); simpa using this
theorem rising_len {n : Nat} : ∀ (L : List Tk) (q : Nat), Rising n q L → L.length + q ≤ n + 1
  | [], q, h => h.elim
  | [t], q, h => by have := h.2; simp; omega
  | t :: u :: L, q, ⟨p, _, h2, _, _, _, h6⟩ => by
    have := rising_len (u :: L) (p + 1) h6
    simp only [List.length_cons] at this ⊢
    omega
theorem neqTT (w : World) : (binOp BinOp.neq 4 (.bool true) (.bool true)).run Tryd.prog w = .ok (.bool false) w := by kernel_rfl
theorem neqFF (w : World) : (binOp BinOp.neq 4 (.bool false) (.bool false)).run Tryd.prog w = .ok (.bool false) w := by kernel_rfl
attribute [local go_sem ↓] neqTT neqFF
set_option maxRecDepth 100000 in
set_option maxHeartbeats 2000000 in
theorem lexReads_walk (s : ByteArray) (w : World) (ht : SignTab w) (hg : ErrType w) : Calls Tryd.prog 5 #[.string s] w (TrueRet w) := by
  have ch := head12_calls w ht
  have HT := Lib.hid ht
  have HE := Lib.hid hg
  clear ht hg
  obtain ⟨B, hB⟩ : ∃ B, w.heap.size = B := ⟨_, rfl⟩
  have HB := Lib.hid hB
  clear hB
  by_cases h3 : 300 < s.size
  · have t3 : decide ((300 : Int) < (s.size : Int)) = true := decide_eq_true (by omega)
    go_enter Tryd.func5, Tryd.ntmps5
    go_wp2_with fail
    refine ch.mono ?_
    rintro e w1 ⟨rfl, hb1⟩
    have B1 := Lib.hid hb1
    clear hb1 ch
    go_wp2_with fail
    go_ret
    exact ⟨rfl, B1.out⟩
  have t3 : decide ((300 : Int) < (s.size : Int)) = false := decide_eq_false (by omega)
  have hn : s.size ≤ 300 := by omega
  have OK : Hid (RsOK s.size 0 (allM (bs s))) := Lib.hid (by
    rw [allM_eq]
    have h1 := skip_le false (bs s)
    have h2 := all_ok (bs s) _ (skipM false (bs s)) (Nat.le_refl _) h1
    rw [bs_len] at h2
    cases hA : allP (bs s) (skipM false (bs s)) with
    | no a b => rw [hA] at h2; exact h2
    | ok L => rw [hA] at h2; exact rising_more h2 (Nat.zero_le _))
  go_enter Tryd.func5, Tryd.ntmps5
  go_wp2_with fail
  refine ch.mono ?_
  rintro e w1 ⟨rfl, hb1⟩
  rw [HB.out] at hb1
  have B1 := Lib.hid hb1
  have s1 : B ≤ w1.heap.size := by have := hb1.size; rw [HB.out] at this; exact this
  have HT1 := Lib.hid (HT.out.below (by rw [HB.out]; exact hb1))
  have HE1 : Hid (ErrType w1) := Lib.hid (HE.out.ext (by show Below _ _ _; rw [HB.out]; exact hb1))
  clear hb1 ch h3
  have ca := all_calls s w1 (by omega) HT1.out
  go_wp2_with fail
  refine ca.mono ?_
  intro e w2 hret
  obtain ⟨hb2, hm2⟩ := hret
  have B2 : Hid (Below B w w2) := Lib.hid (B1.out.trans (hb2.mono s1))
  have HE2 : Hid (ErrType w2) := Lib.hid (HE1.out.ext hb2)
  have s2 : B ≤ w2.heap.size := by have := hb2.size; omega
  clear ca hb2 B1
  cases hR : allM (bs s) with
  | no tag q =>
    rw [hR] at hm2 OK
    obtain ⟨b1, txt1, he1, hle1, hf1⟩ := hm2
    subst he1
    have cO := of_fault b1 tag q txt1 .nilIface w2 hf1 (.inl rfl) HE2.out
    have F2 := Lib.hid hf1
    obtain ⟨htag, hq⟩ := OK.out
    clear hle1 hf1 hR
    go_wp2_with fail
    refine cO.mono ?_
    rintro e w3 ⟨rfl, hx3⟩
    have F3 : FaultAt w3 b1 tag q txt1 .nilIface := F2.out.below F2.out.lt hx3
    have HE3 : Hid (ErrType w3) := Lib.hid (HE2.out.ext hx3)
    have B3 : Hid (Below B w w3) := Lib.hid (B2.out.trans (Below.mono hx3 s2))
    have s3 : B ≤ w3.heap.size := by have : w2.heap.size ≤ w3.heap.size := hx3.size; omega
    have cA := at_fault b1 tag q txt1 .nilIface w3 F3 (.inl rfl) HE3.out
    have F3' := Lib.hid F3
    clear cO hx3 F3
    have q0 : decide ((0 : Int) ≤ (q : Int)) = true := decide_eq_true (by omega)
    have q1 : decide ((q : Int) ≤ (s.size : Int)) = true := decide_eq_true (by omega)
    rcases htag with rfl | rfl
    all_goals
      go_wp2_with fail
      refine cA.mono ?_
      rintro e w4 ⟨rfl, hx4⟩
      have F4 : FaultAt w4 b1 _ q txt1 .nilIface := F3'.out.below F3'.out.lt hx4
      have HE4 : Hid (ErrType w4) := Lib.hid (HE3.out.ext hx4)
      have B4 : Hid (Below B w w4) := Lib.hid (B3.out.trans (Below.mono hx4 s3))
      have s4 : B ≤ w4.heap.size := by have : w3.heap.size ≤ w4.heap.size := hx4.size; omega
      have cB := at_fault b1 _ q txt1 .nilIface w4 F4 (.inl rfl) HE4.out
      clear hx4 F4
      go_wp2_with fail
      refine cB.mono ?_
      rintro e w5 ⟨rfl, hx5⟩
      have B5 : Hid (Below B w w5) := Lib.hid (B4.out.trans (Below.mono hx5 s4))
      clear hx5
      go_wp2_with fail
      go_ret
      exact ⟨rfl, by rw [HB.out]; exact B5.out⟩
  | ok L =>
    rw [hR] at hm2 OK
    obtain ⟨a1, c1, he1, hr1⟩ := hm2
    subst he1
    obtain ⟨hL0, _, hLast, hAt⟩ := rising_at L 0 OK.out
    have hLn : L.length ≤ 301 := by have := rising_len L 0 OK.out; omega
    have HR := Lib.hid hr1
    have HLast := Lib.hid hLast
    have HAt := Lib.hid hAt
    clear hR hr1 hLast hAt OK
    rcases HR.out with h | ⟨g, rfl, hg, hc⟩
    · rw [h] at hL0; simp at hL0
    have HC := Lib.hid hc
    clear hc HR
    obtain ⟨D, hD⟩ : ∃ D, w2.heap.size = D := ⟨_, rfl⟩
    have HD := Lib.hid hD
    rw [hD] at hg
    clear hD
    go_wp2_with fail
    go_loopw [48] (fun i wr => ∃ k : Nat, k ≤ L.length ∧ i = .int .i64 k ∧ Hid (Below D w2 wr)) (fun i _ => L.length - (intOf i).toNat)
    case atStart => exact ⟨0, Nat.zero_le _, rfl, Lib.hid (Below.refl _ _)⟩
    case round =>
      obtain ⟨k, hk, rfl, HBe⟩ := hrel
      by_cases hlt : k < L.length
      · obtain ⟨c0, c1, c2, c3⟩ := HC.out k hlt
        have cl := fun {o : Nat} {x : Value} (h : w2.cell? ⟨g, o, none⟩ = some x) => (HBe.out.cell (p := ⟨g, o, none⟩) hg).trans h
        have d0 := cl c0
        have d1 := cl c1
        have d2 := cl c2
        have d3 := cl c3
        clear cl c0 c1 c2 c3
        have hDr : D ≤ wr.heap.size := by have := HBe.out.size; rw [HD.out] at this; exact this
        have hgw : g < wr.heap.size := by omega
        obtain ⟨j1, j2, j3, j4, j5, j6⟩ := HAt.out k hlt
        have pv : ∀ j, k = j + 1 → wr.cell? ⟨g, j * 4 + 3, none⟩ = some (.int .i64 (tkAt L j).at') ∧ (tkAt L j).at' < (tkAt L k).at' := fun j hj => by
          obtain ⟨_, _, _, c3'⟩ := HC.out j (by omega)
          refine ⟨(HBe.out.cell (p := ⟨g, j * 4 + 3, none⟩) hg).trans c3', ?_⟩
          have := j6 (by omega)
          rw [hj, Nat.add_sub_cancel] at this
          rw [hj]; exact this
        have HPV := Lib.hid pv
        clear j6 pv
        generalize (tkAt L k).kind = kd at *
        generalize (tkAt L k).text = tx at *
        generalize (tkAt L k).num = nm at *
        generalize (tkAt L k).at' = x at *
        by_cases hlast : k + 1 = L.length
        · have hk0 := j3.2 hlast
          have tl : ((k : Int) == (L.length : Int) - 1) = true := by rw [beq_iff_eq]; omega
          by_cases hz : k = 0
          · have tz : decide ((0 : Int) < (k : Int)) = false := decide_eq_false (by omega)
            have tzn : decide (0 < k) = false := decide_eq_false (by omega)
            clear hz
            clear hlast
            clear j3
            have hkd : kd = 0 := hk0
            subst hkd
            go_wp2_with fail
            have B9 : Hid (Below D w2 (wr.alloc (.cells #[.int .i64 0, .string tx, .int .u64 nm, .int .i64 x] 31))) := Lib.hid (HBe.out.alloc hDr _)
            have e0 : (wr.alloc (.cells #[.int .i64 0, .string tx, .int .u64 nm, .int .i64 x] 31)).cell? ⟨wr.heap.size, 0, none⟩ = some (.int .i64 0) := by simp
            have e3 : (wr.alloc (.cells #[.int .i64 0, .string tx, .int .u64 nm, .int .i64 x] 31)).cell? ⟨wr.heap.size, 3, none⟩ = some (.int .i64 x) := by simp
            generalize World.alloc wr _ = W at *
            generalize wr.heap.size = bt at *
            clear d0 d1 d2 d3 hDr
            have BQ : Hid (∀ q, Below D w2 (W.drewN q)) := Lib.hid (fun q => below_drewN B9.out q)
            go_quiet (fail)
            go_wp2_with fail
            go_roundw
            case rel => exact ⟨k + 1, by omega, by go_num, Lib.hid (BQ.out _)⟩
            case measure => simp [intOf]; omega
          · obtain ⟨j, hj⟩ : ∃ j, k = j + 1 := ⟨k - 1, by omega⟩
            obtain ⟨dp, hlt2⟩ := HPV.out j hj
            generalize (tkAt L j).at' = y at *
            have wk : (k : Int) - 1 = (j : Int) := by omega
            have tz : decide ((0 : Int) < (k : Int)) = true := decide_eq_true (by omega)
            have ty : decide (x ≤ y) = false := decide_eq_false (by omega)
            have hjl : (j : Int) < (L.length : Int) := by omega
            have hj0 : (0 : Int) ≤ (j : Int) := by omega
            have tzn : decide (0 < k) = true := decide_eq_true (by omega)
            have tzi : (0 : Int) < (k : Int) := by omega
            clear hj hz
            clear hlast
            clear j3
            have hkd : kd = 0 := hk0
            subst hkd
            go_wp2_with fail
            have B9 : Hid (Below D w2 (wr.alloc (.cells #[.int .i64 0, .string tx, .int .u64 nm, .int .i64 x] 31))) := Lib.hid (HBe.out.alloc hDr _)
            have e0 : (wr.alloc (.cells #[.int .i64 0, .string tx, .int .u64 nm, .int .i64 x] 31)).cell? ⟨wr.heap.size, 0, none⟩ = some (.int .i64 0) := by simp
            have e3 : (wr.alloc (.cells #[.int .i64 0, .string tx, .int .u64 nm, .int .i64 x] 31)).cell? ⟨wr.heap.size, 3, none⟩ = some (.int .i64 x) := by simp
            have ep : (wr.alloc (.cells #[.int .i64 0, .string tx, .int .u64 nm, .int .i64 x] 31)).cell? ⟨g, j * 4 + 3, none⟩ = some (.int .i64 y) := by rw [World.cell?_alloc_lt _ _ _ hgw]; exact dp
            generalize World.alloc wr _ = W at *
            generalize wr.heap.size = bt at *
            clear d0 d1 d2 d3 hDr
            have BQ : Hid (∀ q, Below D w2 (W.drewN q)) := Lib.hid (fun q => below_drewN B9.out q)
            go_quiet (fail)
            go_wp2_with fail
            go_roundw
            case rel => exact ⟨k + 1, by omega, by go_num, Lib.hid (BQ.out _)⟩
            case measure => simp [intOf]; omega
        · have hk0 : ¬ kd = 0 := fun h => hlast (j3.1 h)
          have tl : ((k : Int) == (L.length : Int) - 1) = false := beq_eq_false_iff_ne.2 (by omega)
          have tk : (kd == 0) = false := beq_eq_false_iff_ne.2 (by omega)
          by_cases hz : k = 0
          · have tz : decide ((0 : Int) < (k : Int)) = false := decide_eq_false (by omega)
            have tzn : decide (0 < k) = false := decide_eq_false (by omega)
            clear hz
            clear hlast
            clear j3
            have t5 : decide (kd < 0) = false := decide_eq_false (by omega)
            have t6 : decide (5 < kd) = false := decide_eq_false (by omega)
            go_wp2_with fail
            have B9 : Hid (Below D w2 (wr.alloc (.cells #[.int .i64 kd, .string tx, .int .u64 nm, .int .i64 x] 31))) := Lib.hid (HBe.out.alloc hDr _)
            have e0 : (wr.alloc (.cells #[.int .i64 kd, .string tx, .int .u64 nm, .int .i64 x] 31)).cell? ⟨wr.heap.size, 0, none⟩ = some (.int .i64 kd) := by simp
            have e3 : (wr.alloc (.cells #[.int .i64 kd, .string tx, .int .u64 nm, .int .i64 x] 31)).cell? ⟨wr.heap.size, 3, none⟩ = some (.int .i64 x) := by simp
            generalize World.alloc wr _ = W at *
            generalize wr.heap.size = bt at *
            clear d0 d1 d2 d3 hDr
            have BQ : Hid (∀ q, Below D w2 (W.drewN q)) := Lib.hid (fun q => below_drewN B9.out q)
            go_quiet (fail)
            go_wp2_with fail
            go_roundw
            case rel => exact ⟨k + 1, by omega, by go_num, Lib.hid (BQ.out _)⟩
            case measure => simp [intOf]; omega
          · obtain ⟨j, hj⟩ : ∃ j, k = j + 1 := ⟨k - 1, by omega⟩
            obtain ⟨dp, hlt2⟩ := HPV.out j hj
            generalize (tkAt L j).at' = y at *
            have wk : (k : Int) - 1 = (j : Int) := by omega
            have tz : decide ((0 : Int) < (k : Int)) = true := decide_eq_true (by omega)
            have ty : decide (x ≤ y) = false := decide_eq_false (by omega)
            have hjl : (j : Int) < (L.length : Int) := by omega
            have hj0 : (0 : Int) ≤ (j : Int) := by omega
            have tzn : decide (0 < k) = true := decide_eq_true (by omega)
            have tzi : (0 : Int) < (k : Int) := by omega
            clear hj hz
            clear hlast
            clear j3
            have t5 : decide (kd < 0) = false := decide_eq_false (by omega)
            have t6 : decide (5 < kd) = false := decide_eq_false (by omega)
            go_wp2_with fail
            have B9 : Hid (Below D w2 (wr.alloc (.cells #[.int .i64 kd, .string tx, .int .u64 nm, .int .i64 x] 31))) := Lib.hid (HBe.out.alloc hDr _)
            have e0 : (wr.alloc (.cells #[.int .i64 kd, .string tx, .int .u64 nm, .int .i64 x] 31)).cell? ⟨wr.heap.size, 0, none⟩ = some (.int .i64 kd) := by simp
            have e3 : (wr.alloc (.cells #[.int .i64 kd, .string tx, .int .u64 nm, .int .i64 x] 31)).cell? ⟨wr.heap.size, 3, none⟩ = some (.int .i64 x) := by simp
            have ep : (wr.alloc (.cells #[.int .i64 kd, .string tx, .int .u64 nm, .int .i64 x] 31)).cell? ⟨g, j * 4 + 3, none⟩ = some (.int .i64 y) := by rw [World.cell?_alloc_lt _ _ _ hgw]; exact dp
            generalize World.alloc wr _ = W at *
            generalize wr.heap.size = bt at *
            clear d0 d1 d2 d3 hDr
            have BQ : Hid (∀ q, Below D w2 (W.drewN q)) := Lib.hid (fun q => below_drewN B9.out q)
            go_quiet (fail)
            go_wp2_with fail
            go_roundw
            case rel => exact ⟨k + 1, by omega, by go_num, Lib.hid (BQ.out _)⟩
            case measure => simp [intOf]; omega
      · obtain ⟨m, hm⟩ : ∃ m, L.length = m + 1 := ⟨L.length - 1, by omega⟩
        have wl : (L.length : Int) - 1 = (m : Int) := by omega
        have hml : (m : Int) < (L.length : Int) := by omega
        have hm0 : (0 : Int) ≤ (m : Int) := by omega
        have tl : decide ((0 : Int) < (L.length : Int)) = true := decide_eq_true (by omega)
        have tln : decide (0 < L.length) = true := decide_eq_true (by omega)
        have LS := HLast.out
        rw [show L.length - 1 = m by omega] at LS
        obtain ⟨c0, c1, c2, c3⟩ := HC.out m (by omega)
        rw [LS] at c0 c1 c2 c3
        have cl := fun {o : Nat} {x : Value} (h : w2.cell? ⟨g, o, none⟩ = some x) => (HBe.out.cell (p := ⟨g, o, none⟩) hg).trans h
        have d0 := cl c0
        have d1 := cl c1
        have d2 := cl c2
        have d3 := cl c3
        have BF : Hid (∀ q, Below B w (wr.drewN q)) := Lib.hid (fun q => B2.out.trans (below_drewN (HBe.out.mono (by rw [HD.out] at s2; exact s2)) q))
        have BF0 : Hid (Below B w wr) := Lib.hid (B2.out.trans (HBe.out.mono (by rw [HD.out] at s2; exact s2)))
        clear cl c0 c1 c2 c3 LS hm
        go_wp2_with fail
        go_ret
        exact ⟨rfl, by rw [HB.out]; exact BF0.out⟩
end Go.Proofs.YtecijhaclbbccaaDoor
