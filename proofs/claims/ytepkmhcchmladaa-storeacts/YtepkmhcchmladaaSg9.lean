import Derived.Test.YtepkmhcchmladaaSg8
/- Contract of Prefix: the rows of a relation that start with some numbers. -/
namespace Go.Proofs.Ytepkmhcchmladaa
open Go.RowKit
set_option linter.unusedVariables false
set_option linter.unusedSimpArgs false

theorem cmpR_snoc_lt {a b : List Int} (x y : Int) (hl : a.length = b.length) (h : cmpR a b < 0) : cmpR (a ++ [x]) (b ++ [y]) < 0 := by
  induction a generalizing b with
  | nil => cases b with
    | nil => simp [cmpR] at h
    | cons y b => simp at hl
  | cons u a ih => cases b with
    | nil => simp at hl
    | cons v b =>
      simp only [List.cons_append, cmpR_cons] at *
      by_cases h1 : u < v
      · rw [if_pos h1]; omega
      · rw [if_neg h1] at h ⊢
        by_cases h2 : v < u
        · rw [if_pos h2] at h; omega
        · rw [if_neg h2] at h ⊢; exact ih (by simpa using hl) h
theorem cmpR_snoc_gt {a b : List Int} (x y : Int) (hl : a.length = b.length) (h : 0 < cmpR a b) : 0 < cmpR (a ++ [x]) (b ++ [y]) :=
  (cmpR_neg _ _).1 (cmpR_snoc_lt y x hl.symm ((cmpR_neg _ _).2 h))
theorem cmpR_snoc_same (a : List Int) (x y : Int) : cmpR (a ++ [x]) (a ++ [y]) = if x < y then -1 else if y < x then 1 else 0 := by
  induction a with
  | nil => simp [cmpR]
  | cons u a ih => simp [cmpR_cons, ih]
theorem cmpR_drop {a b : List Int} {k : Nat} (h : a.take k = b.take k) (ha : k ≤ a.length) (hb : k ≤ b.length) : cmpR a b = cmpR (a.drop k) (b.drop k) := by
  induction k generalizing a b with
  | zero => simp
  | succ k ih =>
    cases a with
    | nil => simp at ha
    | cons x a => cases b with
      | nil => simp at hb
      | cons y b =>
        simp at h
        rw [cmpR_cons, h.1, if_neg (by omega), if_neg (by omega)]
        exact ih h.2 (by simpa using ha) (by simpa using hb)
theorem sorted_at {rs : List (List Int)} (hs : SortedR rs) {i j : Nat} (hij : i < j) (hj : j < rs.length) : cmpR (rowAt rs i) (rowAt rs j) < 0 := by
  have := List.pairwise_iff_getElem.1 hs i j (by omega) hj hij
  simpa [rowAt, hj, show i < rs.length by omega] using this

/-- The rows from one index to another are those that start with q. -/
def PrefixAt (rs : List (List Int)) (q : List Int) (from_ to_ : Nat) : Prop :=
  from_ ≤ to_ ∧ to_ ≤ rs.length ∧ ∀ i, i < rs.length → ((i < from_ ↔ cmpR ((rowAt rs i).take q.length) q < 0) ∧ (i < to_ ↔ ¬ 0 < cmpR ((rowAt rs i).take q.length) q))
theorem prefix_nil (rs : List (List Int)) : PrefixAt rs [] 0 rs.length := ⟨Nat.zero_le _, Nat.le_refl _, fun i hi => by simp [cmpR, hi]⟩
theorem prefix_none (q : List Int) : PrefixAt [] q 0 0 := ⟨Nat.le_refl _, Nat.le_refl _, fun i hi => by simp at hi⟩
theorem PrefixAt.same {rs : List (List Int)} {q : List Int} {f t i : Nat} (h : PrefixAt rs q f t) (h1 : f ≤ i) (h2 : i < t) : (rowAt rs i).take q.length = q := by
  have hi : i < rs.length := Nat.lt_of_lt_of_le h2 h.2.1
  obtain ⟨a, b⟩ := h.2.2 i hi
  have h3 : ¬ cmpR ((rowAt rs i).take q.length) q < 0 := fun e => by have := a.2 e; omega
  have h4 := b.1 h2
  exact cmpR_eq (by omega)
theorem take_snoc_at {r : List Int} {k : Nat} (h : k < r.length) : r.take (k + 1) = r.take k ++ [r[k]?.getD 0] := by
  rw [List.take_succ_eq_append_getElem h, List.getElem?_eq_getElem h]; rfl
/-- The elements at the next position ascend. -/
theorem prefix_mono {rs : List (List Int)} {q : List Int} {f t wd : Nat} (hs : SortedR rs) (hw : ∀ r ∈ rs, r.length = wd) (h : PrefixAt rs q f t) (hq : q.length < wd) {a b : Nat} (hab : a ≤ b) (hb : f + b < t) :
    (rowAt rs (f + a))[q.length]?.getD 0 ≤ (rowAt rs (f + b))[q.length]?.getD 0 := by
  rcases Nat.eq_or_lt_of_le hab with e | hlt
  · rw [e]; exact Int.le_refl _
  · have hbl : f + b < rs.length := Nat.lt_of_lt_of_le hb h.2.1
    have h1 := sorted_at hs (show f + a < f + b by omega) hbl
    have e1 := h.same (i := f + a) (by omega) (by omega)
    have e2 := h.same (i := f + b) (by omega) hb
    have l1 := hw _ (rowAt_mem (i := f + a) (rs := rs) (by omega))
    have l2 := hw _ (rowAt_mem (i := f + b) (rs := rs) hbl)
    rw [cmpR_drop (k := q.length) (e1.trans e2.symm) (by omega) (by omega), cmpR_step (by omega) (by omega)] at h1
    by_cases c1 : (rowAt rs (f + a))[q.length]?.getD 0 < (rowAt rs (f + b))[q.length]?.getD 0
    · omega
    · rw [if_neg c1] at h1
      by_cases c2 : (rowAt rs (f + b))[q.length]?.getD 0 < (rowAt rs (f + a))[q.length]?.getD 0
      · rw [if_pos c2] at h1; omega
      · omega
theorem prefix_step {rs : List (List Int)} {q : List Int} {f t wd k1 k2 : Nat} {v : Int} (hw : ∀ r ∈ rs, r.length = wd) (h : PrefixAt rs q f t) (hq : q.length < wd)
    (h1 : FirstAt (fun i => decide (v ≤ (rowAt rs (f + i))[q.length]?.getD 0)) (t - f) k1) (h2 : FirstAt (fun i => decide (v < (rowAt rs (f + i))[q.length]?.getD 0)) (t - f) k2) : PrefixAt rs (q ++ [v]) (f + k1) (f + k2) := by
  have hft := h.1
  have htl := h.2.1
  have h12 : k1 ≤ k2 := by
    rcases Nat.lt_or_ge k2 k1 with hlt | hge
    · have e1 := h1.2.1 k2 hlt
      have e2 := h2.2.2 k2 (Nat.le_refl _) (by have := h1.1; omega)
      simp only [decide_eq_false_iff_not, decide_eq_true_eq] at e1 e2
      omega
    · exact hge
  refine ⟨by omega, by have := h2.1; omega, fun i hi => ?_⟩
  have hl := hw _ (rowAt_mem hi)
  rw [show (q ++ [v]).length = q.length + 1 by simp, take_snoc_at (by omega)]
  have hlq : ((rowAt rs i).take q.length).length = q.length := by simp; omega
  obtain ⟨ha, hb⟩ := h.2.2 i hi
  by_cases c1 : i < f
  · have h3 := cmpR_snoc_lt ((rowAt rs i)[q.length]?.getD 0) v hlq (ha.1 c1)
    exact ⟨⟨fun _ => h3, fun _ => by omega⟩, ⟨fun _ => by omega, fun _ => by omega⟩⟩
  · by_cases c2 : i < t
    · rw [h.same (by omega) c2, cmpR_snoc_same]
      obtain ⟨j, rfl⟩ : ∃ j, i = f + j := ⟨i - f, by omega⟩
      constructor
      · by_cases c3 : j < k1
        · have e1 := h1.2.1 j c3
          simp only [decide_eq_false_iff_not] at e1
          rw [if_pos (by omega)]
          exact ⟨fun _ => by omega, fun _ => by omega⟩
        · have e1 := h1.2.2 j (by omega) (by omega)
          simp only [decide_eq_true_eq] at e1
          rw [if_neg (by omega)]
          constructor
          · intro h; omega
          · intro h; split at h <;> omega
      · by_cases c3 : j < k2
        · have e1 := h2.2.1 j c3
          simp only [decide_eq_false_iff_not] at e1
          constructor
          · intro _
            by_cases c4 : (rowAt rs (f + j))[q.length]?.getD 0 < v
            · rw [if_pos c4]; omega
            · rw [if_neg c4, if_neg e1]; omega
          · intro _; omega
        · have e1 := h2.2.2 j (by omega) (by omega)
          simp only [decide_eq_true_eq] at e1
          rw [if_neg (by omega), if_pos e1]
          constructor
          · intro h; omega
          · intro h; omega
    · have h3 : 0 < cmpR ((rowAt rs i).take q.length) q := by
        rcases Int.lt_or_le 0 (cmpR ((rowAt rs i).take q.length) q) with h | h
        · exact h
        · exact absurd (hb.2 (by omega)) c2
      have h4 := cmpR_snoc_gt ((rowAt rs i)[q.length]?.getD 0) v hlq h3
      have := h1.1; have := h2.1
      exact ⟨⟨fun _ => by omega, fun _ => by omega⟩, ⟨fun _ => by omega, fun h => by omega⟩⟩

theorem close51 (bx by_ : Nat) (a : Option Addr) (n c : Nat) (v x : Int) (i : Nat) (w : World) (h1 : w.cell? ⟨bx, 0, none⟩ = some (.slice a n c)) (h2 : w.cell? ⟨by_, 0, none⟩ = some (.int .i64 v)) (hi : i < n) (hx : ∃ b off, a = some ⟨b, off, none⟩ ∧ w.cell? ⟨b, off + i, none⟩ = some (.int .i64 x)) :
    Calls Try.prog 67 #[.int .i64 i, .pointer (some ⟨bx, 0, none⟩), .pointer (some ⟨by_, 0, none⟩)] w (Quiet (.bool (decide (v ≤ x))) w) := by
  obtain ⟨b, off, rfl, hc⟩ := hx
  have q1 : (i : Int) < (n : Int) := by omega
  have q2 : (0 : Int) ≤ (i : Int) := by omega
  go_enter Try.func67, Try.ntmps67
  go_wp2_with fail
  go_quiet (fail)
  go_wp2_with fail
  go_ret
  exact ⟨rfl, _, rfl⟩
theorem close52 (bx by_ : Nat) (a : Option Addr) (n c : Nat) (v x : Int) (i : Nat) (w : World) (h1 : w.cell? ⟨bx, 0, none⟩ = some (.slice a n c)) (h2 : w.cell? ⟨by_, 0, none⟩ = some (.int .i64 v)) (hi : i < n) (hx : ∃ b off, a = some ⟨b, off, none⟩ ∧ w.cell? ⟨b, off + i, none⟩ = some (.int .i64 x)) :
    Calls Try.prog 68 #[.int .i64 i, .pointer (some ⟨bx, 0, none⟩), .pointer (some ⟨by_, 0, none⟩)] w (Quiet (.bool (decide (v < x))) w) := by
  obtain ⟨b, off, rfl, hc⟩ := hx
  have q1 : (i : Int) < (n : Int) := by omega
  have q2 : (0 : Int) ≤ (i : Int) := by omega
  go_enter Try.func68, Try.ntmps68
  go_wp2_with fail
  go_quiet (fail)
  go_wp2_with fail
  go_ret
  exact ⟨rfl, _, rfl⟩

def PrefixRet (rs : List (List Int)) (q : List Int) (w : World) (e : Ending) (w' : World) : Prop :=
  ∃ f t : Nat, e = .returned (.tuple #[.int .i64 f, .int .i64 t]) ∧ PrefixAt rs q f t ∧ Below w.heap.size w w'
theorem prefix_long {w : World} {p : Option Addr} {wd : Nat} {rs : List (List Int)} (h : Seg w p wd rs) (a : Option Addr) (len cap : Nat) (hl : wd < len) (hm : len ≤ 1000000) :
    Calls Try.prog 37 #[.pointer p, .slice a len cap] w fun e w' => e = .returned (.tuple #[.int .i64 0, .int .i64 0]) ∧ w = w' := by
  have cw := segWidth_calls h
  have t1 : decide (wd < len) = true := decide_eq_true hl
  clear h
  go_enter Try.func37, Try.ntmps37
  go_wp2_with (first | (go_at_call 36; refine cw.mono ?_; rintro e w' ⟨rfl, rfl⟩))
  go_ret2
  exact ⟨rfl, rfl⟩

set_option maxRecDepth 100000 in
set_option maxHeartbeats 4000000 in
theorem prefix_calls {w : World} {p : Option Addr} {wd : Nat} {rs : List (List Int)} (h : Seg w p wd rs) (a : Option Addr) (cap : Nat) (qs : List Int) (hQ : Row w a qs) (hl : qs.length ≤ wd) (hwd : wd ≤ 1000) (hrs : rs.length ≤ 1000000) :
    Calls Try.prog 37 #[.pointer p, .slice a qs.length cap] w (PrefixRet rs qs w) := by
  have cw := segWidth_calls h
  have cl := segLen_calls h
  have t1 : decide (wd < qs.length) = false := decide_eq_false (by omega)
  have HS := Lib.hid (show SortedR rs ∧ ∀ r ∈ rs, r.length = wd from ⟨h.1, h.2.1⟩)
  by_cases h0 : rs.length = 0
  · obtain rfl : rs = [] := List.eq_nil_of_length_eq_zero h0
    clear h h0
    go_enter Try.func37, Try.ntmps37
    go_wp2_with (first | (go_at_call 36; refine cw.mono ?_; rintro e w' ⟨rfl, rfl⟩) | (go_at_call 12; refine cl.mono ?_; rintro e w' ⟨rfl, rfl⟩))
    go_ret2
    exact ⟨0, 0, rfl, prefix_none _, Below.refl _ _⟩
  · have t2 : ((rs.length : Int) == 0) = false := beq_eq_false_iff_ne.2 (by omega)
    obtain ⟨_, _, ⟨_, _, h9⟩ | ⟨g, ka, n, kc, rfl, hg, hr⟩⟩ := h
    · rw [h9] at h0; simp at h0
    · rcases hr with h9 | ⟨rfl, K, hK, hR⟩
      · rw [h9] at h0; simp at h0
      · have hgl := (Array.getElem?_eq_some_iff.1 hg).1
        obtain ⟨c0, c1, c2⟩ := segCells hg
        have HK := Lib.hid hK
        have HR := Lib.hid hR
        have HQ := Lib.hid hQ
        have HG := Lib.hid hg
        obtain ⟨B, hB⟩ : ∃ B, w.heap.size = B := ⟨_, rfl⟩
        have HB := Lib.hid hB
        clear hg hK hR hQ hB
        go_enter Try.func37, Try.ntmps37
        go_wp2_with (first | (go_at_call 36; refine cw.mono ?_; rintro e w' ⟨rfl, rfl⟩) | (go_at_call 12; refine cl.mono ?_; rintro e w' ⟨rfl, rfl⟩))
        go_quiet (fail)
        go_wp2_with fail
        clear cw cl
        go_loopw [29, 6, 7] (fun s s6 s7 wr => ∃ k f t : Nat, k ≤ qs.length ∧ s = .int .i64 k ∧ s6 = .int .i64 f ∧ s7 = .int .i64 t ∧ Hid (PrefixAt rs (qs.take k) f t) ∧ Hid (Below B w wr)) (fun s _ _ _ => qs.length - (intOf s).toNat)
        case atStart => exact ⟨0, 0, rs.length, Nat.zero_le _, rfl, rfl, rfl, Lib.hid (prefix_nil rs), Lib.hid (by rw [← HB.out]; exact below_drewN (Below.refl _ _) _)⟩
        case round =>
          obtain ⟨k, f, t, hk, rfl, rfl, rfl, HP, HBe⟩ := hrel
          have hft : f ≤ t ∧ t ≤ rs.length := ⟨HP.out.1, HP.out.2.1⟩
          have hBr : B ≤ wr.heap.size := by have := HBe.out.size; rw [HB.out] at this; exact this
          by_cases hlt : k < qs.length
          · obtain ⟨b, off, rfl, hb, hcell⟩ := (HQ.out.belowB HB.out HBe.out).at hlt
            have TS := Lib.hid (take_snoc_at hlt)
            have LQ : Hid ((qs.take k).length = k) := Lib.hid (by simp; omega)
            obtain ⟨v, hv⟩ : ∃ v, qs[k]?.getD 0 = v := ⟨_, rfl⟩
            rw [hv] at hcell TS
            clear hv
            have d2 : wr.cell? ⟨g, 2, none⟩ = some (.slice ka n kc) := (HBe.out.cell (p := ⟨g, 2, none⟩) (by show g < B; rw [← HB.out]; exact hgl)).trans c2
            obtain ⟨_, b1, off1, xa, xc, rfl, hb1, hc1, hrow, hxc⟩ := colAt HK.out (HR.out.belowB HB.out HBe.out) (k := k) (by omega)
            obtain ⟨b2, off2, rfl, hb2, hc2⟩ : ∃ b2 off2, xa = some ⟨b2, off2, none⟩ ∧ b2 < wr.heap.size ∧ ∀ i, i < rs.length → wr.cell? ⟨b2, off2 + i, none⟩ = some (.int .i64 ((rowAt rs i)[k]?.getD 0)) := by
              rcases hrow with h9 | ⟨b2, off2, ha, hlt2, hcc⟩
              · have := congrArg List.length h9; rw [colOf_len] at this; exact absurd this h0
              · refine ⟨b2, off2, ha, hlt2, fun i hi => ?_⟩
                rw [hcc i (by rw [colOf_len]; exact hi), colOf_at hi]
            have HC2 := Lib.hid hc2
            have hgr : g < wr.heap.size := by have := HB.out; omega
            have e1 : (f : Int) ≤ (t : Int) := by omega
            have e2 : (t : Int) ≤ (rs.length : Int) := by omega
            have e3 : (0 : Int) ≤ (f : Int) := by omega
            have q3 : (k : Int) < (n : Int) := by omega
            have q4 : (0 : Int) ≤ (k : Int) := by omega
            clear hc2 hrow
            have c3 : (rs.length : Int) ≤ (xc : Int) := by omega
            by_cases hxf : xc = f
            · obtain rfl : f = xc := hxf.symm
              go_wp2_with fail
              obtain ⟨m, hm⟩ : ∃ m, t - f = m := ⟨_, rfl⟩
              rw [hm]
              have HM := Lib.hid hm
              have W1 : ((wr.alloc (.cells #[.int .i64 v] 2)).alloc (.cells #[.slice (some ⟨b2, off2, none⟩) m 0] 33)).cell? ⟨wr.heap.size, 0, none⟩ = some (.int .i64 v) := by go_simp
              have W2 : ((wr.alloc (.cells #[.int .i64 v] 2)).alloc (.cells #[.slice (some ⟨b2, off2, none⟩) m 0] 33)).cell? ⟨wr.heap.size + 1, 0, none⟩ = some (.slice (some ⟨b2, off2, none⟩) m 0) := by go_simp
              have W3 : ∀ i, i < m → ((wr.alloc (.cells #[.int .i64 v] 2)).alloc (.cells #[.slice (some ⟨b2, off2, none⟩) m 0] 33)).cell? ⟨b2, off2 + i, none⟩ = some (.int .i64 ((rowAt rs (f + i))[k]?.getD 0)) := fun i hi => by
                have := HM.out; omega
              have WB : Below B w ((wr.alloc (.cells #[.int .i64 v] 2)).alloc (.cells #[.slice (some ⟨b2, off2, none⟩) m 0] 33)) := (HBe.out.alloc hBr _).alloc (by simp; omega) _
              have H1 := Lib.hid W1
              have H2 := Lib.hid W2
              have H3 := Lib.hid W3
              have H4 := Lib.hid WB
              clear W1 W2 W3 WB hm hcell d2 hc1
              generalize World.alloc (World.alloc _ _) _ = W at *
              have mono1 : ∀ a b, a ≤ b → b < m → decide (v ≤ (rowAt rs (f + a))[k]?.getD 0) = true → decide (v ≤ (rowAt rs (f + b))[k]?.getD 0) = true := fun a b hab hb h => by
                have h1 := prefix_mono HS.out.1 HS.out.2 HP.out (by rw [LQ.out]; omega) hab (by have := HM.out; omega)
                rw [LQ.out] at h1
                simp only [decide_eq_true_eq] at *; omega
              have mono2 : ∀ a b, a ≤ b → b < m → decide (v < (rowAt rs (f + a))[k]?.getD 0) = true → decide (v < (rowAt rs (f + b))[k]?.getD 0) = true := fun a b hab hb h => by
                have h1 := prefix_mono HS.out.1 HS.out.2 HP.out (by rw [LQ.out]; omega) hab (by have := HM.out; omega)
                rw [LQ.out] at h1
                simp only [decide_eq_true_eq] at *; omega
              have M2 := Lib.hid mono2
              refine (search51 _ _ m (fun i => decide (v ≤ (rowAt rs (f + i))[k]?.getD 0)) W (by have := HM.out; omega) (fun q i hi => close51 _ _ _ m _ v _ i _ H2.out H1.out hi ⟨b2, _, rfl, H3.out i hi⟩) mono1).mono ?_
              rintro e w4 ⟨k1, q4, rfl, hF1, rfl⟩
              have F1 := Lib.hid hF1
              have hk1 : k1 ≤ m := hF1.1
              clear hF1 mono1 mono2
              have k2 : (W.drewN q4).cell? ⟨wr.heap.size + 1, 0, none⟩ = some (.slice (some ⟨b2, off2, none⟩) m 0) := H2.out
              go_wp2_with fail
              clear k2
              refine (search52 _ _ m (fun i => decide (v < (rowAt rs (f + i))[k]?.getD 0)) (W.drewN q4) (by have := HM.out; omega) (fun q i hi => close52 _ _ _ m _ v _ i _ H2.out H1.out hi ⟨b2, _, rfl, H3.out i hi⟩) M2.out).mono ?_
              rintro e w5 ⟨k2, q5, rfl, hF2, rfl⟩
              have hk2 : k2 ≤ m := hF2.1
              have PS : Hid (PrefixAt rs (qs.take (k + 1)) (f + k1) (f + k2)) := Lib.hid (by
                rw [TS.out]
                exact prefix_step HS.out.2 HP.out (by rw [LQ.out]; omega) (by rw [LQ.out, HM.out]; exact F1.out) (by rw [LQ.out, HM.out]; exact hF2))
              clear hF2
              have hmt : f + m ≤ 1000000 := by have := HM.out; omega
              go_wp2_with fail
              go_roundw
              case rel => exact ⟨k + 1, f + k1, f + k2, by omega, by go_num, by go_num, by go_num, PS, Lib.hid (below_drewN H4.out _)⟩
              case measure => simp [intOf]; omega
            · go_wp2_with fail
              obtain ⟨m, hm⟩ : ∃ m, t - f = m := ⟨_, rfl⟩
              obtain ⟨cm, hcm⟩ : ∃ m, xc - f = m := ⟨_, rfl⟩
              rw [hm, hcm]
              have HM := Lib.hid hm
              have W1 : ((wr.alloc (.cells #[.int .i64 v] 2)).alloc (.cells #[.slice (some ⟨b2, off2 + f, none⟩) m cm] 33)).cell? ⟨wr.heap.size, 0, none⟩ = some (.int .i64 v) := by go_simp
              have W2 : ((wr.alloc (.cells #[.int .i64 v] 2)).alloc (.cells #[.slice (some ⟨b2, off2 + f, none⟩) m cm] 33)).cell? ⟨wr.heap.size + 1, 0, none⟩ = some (.slice (some ⟨b2, off2 + f, none⟩) m cm) := by go_simp
              have W3 : ∀ i, i < m → ((wr.alloc (.cells #[.int .i64 v] 2)).alloc (.cells #[.slice (some ⟨b2, off2 + f, none⟩) m cm] 33)).cell? ⟨b2, off2 + f + i, none⟩ = some (.int .i64 ((rowAt rs (f + i))[k]?.getD 0)) := fun i hi => by
                have := HC2.out (f + i) (by have := HM.out; omega)
                rw [← Nat.add_assoc] at this
                go_simp
              have WB : Below B w ((wr.alloc (.cells #[.int .i64 v] 2)).alloc (.cells #[.slice (some ⟨b2, off2 + f, none⟩) m cm] 33)) := (HBe.out.alloc hBr _).alloc (by simp; omega) _
              have H1 := Lib.hid W1
              have H2 := Lib.hid W2
              have H3 := Lib.hid W3
              have H4 := Lib.hid WB
              clear W1 W2 W3 WB hm hcm hcell d2 hc1
              generalize World.alloc (World.alloc _ _) _ = W at *
              have mono1 : ∀ a b, a ≤ b → b < m → decide (v ≤ (rowAt rs (f + a))[k]?.getD 0) = true → decide (v ≤ (rowAt rs (f + b))[k]?.getD 0) = true := fun a b hab hb h => by
                have h1 := prefix_mono HS.out.1 HS.out.2 HP.out (by rw [LQ.out]; omega) hab (by have := HM.out; omega)
                rw [LQ.out] at h1
                simp only [decide_eq_true_eq] at *; omega
              have mono2 : ∀ a b, a ≤ b → b < m → decide (v < (rowAt rs (f + a))[k]?.getD 0) = true → decide (v < (rowAt rs (f + b))[k]?.getD 0) = true := fun a b hab hb h => by
                have h1 := prefix_mono HS.out.1 HS.out.2 HP.out (by rw [LQ.out]; omega) hab (by have := HM.out; omega)
                rw [LQ.out] at h1
                simp only [decide_eq_true_eq] at *; omega
              have M2 := Lib.hid mono2
              refine (search51 _ _ m (fun i => decide (v ≤ (rowAt rs (f + i))[k]?.getD 0)) W (by have := HM.out; omega) (fun q i hi => close51 _ _ _ m _ v _ i _ H2.out H1.out hi ⟨b2, _, rfl, H3.out i hi⟩) mono1).mono ?_
              rintro e w4 ⟨k1, q4, rfl, hF1, rfl⟩
              have F1 := Lib.hid hF1
              have hk1 : k1 ≤ m := hF1.1
              clear hF1 mono1 mono2
              have k2 : (W.drewN q4).cell? ⟨wr.heap.size + 1, 0, none⟩ = some (.slice (some ⟨b2, off2 + f, none⟩) m cm) := H2.out
              go_wp2_with fail
              clear k2
              refine (search52 _ _ m (fun i => decide (v < (rowAt rs (f + i))[k]?.getD 0)) (W.drewN q4) (by have := HM.out; omega) (fun q i hi => close52 _ _ _ m _ v _ i _ H2.out H1.out hi ⟨b2, _, rfl, H3.out i hi⟩) M2.out).mono ?_
              rintro e w5 ⟨k2, q5, rfl, hF2, rfl⟩
              have hk2 : k2 ≤ m := hF2.1
              have PS : Hid (PrefixAt rs (qs.take (k + 1)) (f + k1) (f + k2)) := Lib.hid (by
                rw [TS.out]
                exact prefix_step HS.out.2 HP.out (by rw [LQ.out]; omega) (by rw [LQ.out, HM.out]; exact F1.out) (by rw [LQ.out, HM.out]; exact hF2))
              clear hF2
              have hmt : f + m ≤ 1000000 := by have := HM.out; omega
              go_wp2_with fail
              go_roundw
              case rel => exact ⟨k + 1, f + k1, f + k2, by omega, by go_num, by go_num, by go_num, PS, Lib.hid (below_drewN H4.out _)⟩
              case measure => simp [intOf]; omega
          · obtain rfl : k = qs.length := by omega
            have HP2 : Hid (PrefixAt rs qs f t) := Lib.hid (by have := HP.out; rw [List.take_length] at this; exact this)
            go_wp2_with fail
            go_ret2
            exact ⟨f, t, rfl, HP2.out, by rw [HB.out]; exact HBe.out⟩
end Go.Proofs.Ytepkmhcchmladaa
