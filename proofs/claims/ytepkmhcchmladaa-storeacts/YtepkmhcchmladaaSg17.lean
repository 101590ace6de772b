import Derived.Test.YtepkmhcchmladaaSg16
/- Contract of seek: the first row that is not less. -/
namespace Go.Proofs.Ytepkmhcchmladaa
open Go.RowKit
set_option linter.unusedVariables false
set_option linter.unusedSimpArgs false

/-- The index of the first row that is not less than r. -/
def SeekAt (xs : List (List Int)) (r : List Int) (n : Nat) : Prop :=
  n ≤ xs.length ∧ (∀ i, i < n → cmpR (rowAt xs i) r < 0) ∧ ∀ i, n ≤ i → i < xs.length → ¬ cmpR (rowAt xs i) r < 0
theorem less_down {xs : List (List Int)} (hs : SortedR xs) {r : List Int} {i j : Nat} (hij : i ≤ j) (hj : j < xs.length) (h : cmpR (rowAt xs j) r < 0) : cmpR (rowAt xs i) r < 0 := by
  rcases Nat.eq_or_lt_of_le hij with e | hlt
  · rw [e]; exact h
  · exact cmpR_trans (sorted_at hs hlt hj) h
theorem seek_math {xs : List (List Int)} (hs : SortedR xs) {r : List Int} {f st near k : Nat} (hf : f ≤ xs.length) (h1 : ∀ i, i < f → cmpR (rowAt xs i) r < 0) (hst : 1 ≤ st)
    (hx : xs.length < f + st ∨ ¬ cmpR (rowAt xs (f + st - 1)) r < 0) (hn : (near = st - 1 ∧ st - 1 ≤ xs.length - f) ∨ near = xs.length - f) (hk : FirstAt (fun i => decide (0 ≤ cmpS (rowAt xs (f + i)) r)) near k) : SeekAt xs r (f + k) := by
  obtain ⟨k1, k2, k3⟩ := hk
  refine ⟨by omega, fun i hi => ?_, fun i h2 h3 => ?_⟩
  · by_cases c : i < f
    · exact h1 i c
    · have := k2 (i - f) (by omega)
      simp only [decide_eq_false_iff_not] at this
      rw [show f + (i - f) = i by omega] at this
      exact (cmpS_lt _ _).1 (by omega)
  · intro h
    by_cases c : k < near
    · have h4 := less_down hs h2 h3 h
      have := k3 k (Nat.le_refl _) c
      simp only [decide_eq_true_eq] at this
      have := (cmpS_lt (rowAt xs (f + k)) r).2 h4
      omega
    · rcases hn with ⟨e, _⟩ | e
      · rcases hx with hx | hx
        · omega
        · exact hx (less_down hs (by omega) h3 h)
      · omega

theorem close68 (b1 b2 b3 b4 : Nat) (p o : Option Addr) (f j i : Nat) (c : Int) (w : World) (h1 : w.cell? ⟨b1, 0, none⟩ = some (.pointer p)) (h2 : w.cell? ⟨b2, 0, none⟩ = some (.int .i64 f)) (h3 : w.cell? ⟨b3, 0, none⟩ = some (.pointer o)) (h4 : w.cell? ⟨b4, 0, none⟩ = some (.int .i64 j)) (hi : f + i ≤ 1000000)
    (cc : Calls Try.prog 76 #[.pointer p, .int .i64 (f + i : Nat), .pointer o, .int .i64 j] w (Quiet (.int .i64 c) w)) :
    Calls Try.prog 77 #[.int .i64 i, .pointer (some ⟨b1, 0, none⟩), .pointer (some ⟨b2, 0, none⟩), .pointer (some ⟨b3, 0, none⟩), .pointer (some ⟨b4, 0, none⟩)] w (Quiet (.bool (decide (0 ≤ c))) w) := by
  have e : ((f + i : Nat) : Int) = (f : Int) + (i : Int) := by omega
  rw [e] at cc
  go_enter Try.func77, Try.ntmps77
  go_wp2_with (first | (go_at_call 76; refine cc.mono ?_; rintro e w2 ⟨rfl, q, rfl⟩))
  go_ret
  exact ⟨rfl, _, rfl⟩

/-- The boxes of a seek under way. -/
structure SK (B : Nat) (w wr : World) (p o : Option Addr) (f j : Nat) : Prop where
  below : Below B w wr
  size : B + 4 ≤ wr.heap.size
  k0 : wr.heap[B]? = some (.cells #[.pointer p] 30 (0, 0))
  k1 : wr.heap[B + 1]? = some (.cells #[.int .i64 f] 3 (0, 0))
  k2 : wr.heap[B + 2]? = some (.cells #[.pointer o] 30 (0, 0))
  k3 : wr.heap[B + 3]? = some (.cells #[.int .i64 j] 3 (0, 0))
theorem SK.drewN {B : Nat} {w wr : World} {p o : Option Addr} {f j : Nat} (h : SK B w wr p o f j) (n : Nat) : SK B w (wr.drewN n) p o f j := ⟨below_drewN h.below n, h.size, h.k0, h.k1, h.k2, h.k3⟩
theorem SK.set {B : Nat} {w wr : World} {p o : Option Addr} {f j : Nat} (h : SK B w wr p o f j) (f' : Nat) : SK B w (wr.setCell ⟨B + 1, 0, none⟩ (.int .i64 f')) p o f' j := by
  refine ⟨h.below.setCell (by show B ≤ B + 1; omega) _, by simp; exact h.size, ?_, ?_, ?_, ?_⟩
  · rw [Go.heap_setCell_other _ _ _ _ (by show B ≠ B + 1; omega)]; exact h.k0
  · rw [Go.heap_setCell_same _ _ _ _ _ _ h.k1]; rfl
  · rw [Go.heap_setCell_other _ _ _ _ (by show B + 2 ≠ B + 1; omega)]; exact h.k2
  · rw [Go.heap_setCell_other _ _ _ _ (by show B + 3 ≠ B + 1; omega)]; exact h.k3
theorem SK.cells {B : Nat} {w wr : World} {p o : Option Addr} {f j : Nat} (h : SK B w wr p o f j) : wr.cell? ⟨B, 0, none⟩ = some (.pointer p) ∧ wr.cell? ⟨B + 1, 0, none⟩ = some (.int .i64 f) ∧ wr.cell? ⟨B + 2, 0, none⟩ = some (.pointer o) ∧ wr.cell? ⟨B + 3, 0, none⟩ = some (.int .i64 j) ∧ wr.frozen? ⟨B + 1, 0, none⟩ = false := by
  refine ⟨?_, ?_, ?_, ?_, ?_⟩
  · simp [World.cell?, h.k0]
  · simp [World.cell?, h.k1]
  · simp [World.cell?, h.k2]
  · simp [World.cell?, h.k3]
  · simp [World.frozen?, h.k1]
theorem sk_start (w : World) (p o : Option Addr) (f j : Nat) : SK w.heap.size w ((((w.alloc (.cells #[.pointer p] 30)).alloc (.cells #[.int .i64 f] 3)).alloc (.cells #[.pointer o] 30)).alloc (.cells #[.int .i64 j] 3)) p o f j := by
  refine ⟨((((Below.refl _ _).alloc (Nat.le_refl _) _).alloc (by simp) _).alloc (by simp; omega) _).alloc (by simp; omega) _, by simp, ?_, ?_, ?_, ?_⟩
  · rw [Below.heap_alloc _ _ _ (by first | (simp; done) | (simp; omega)), Below.heap_alloc _ _ _ (by first | (simp; done) | (simp; omega)), Below.heap_alloc _ _ _ (by first | (simp; done) | (simp; omega))]
    exact heap_alloc_new w _
  · rw [Below.heap_alloc _ _ _ (by first | (simp; done) | (simp; omega)), Below.heap_alloc _ _ _ (by first | (simp; done) | (simp; omega))]
    have := heap_alloc_new (w.alloc (.cells #[.pointer p] 30)) (.cells #[.int .i64 f] 3)
    simpa using this
  · rw [Below.heap_alloc _ _ _ (by simp)]
    have := heap_alloc_new ((w.alloc (.cells #[.pointer p] 30)).alloc (.cells #[.int .i64 f] 3)) (.cells #[.pointer o] 30)
    simpa using this
  · have := heap_alloc_new (((w.alloc (.cells #[.pointer p] 30)).alloc (.cells #[.int .i64 f] 3)).alloc (.cells #[.pointer o] 30)) (.cells #[.int .i64 j] 3)
    simpa using this

def SeekRet (xs : List (List Int)) (r : List Int) (f0 : Nat) (w : World) (e : Ending) (w' : World) : Prop := ∃ n : Nat, e = .returned (.int .i64 n) ∧ SeekAt xs r n ∧ f0 ≤ n ∧ Below w.heap.size w w'

set_option maxRecDepth 100000 in
set_option maxHeartbeats 4000000 in
theorem seek_calls {w : World} {p o : Option Addr} {wd : Nat} {xs ys : List (List Int)} (h : Seg w p wd xs) (h' : Seg w o wd ys) (f0 j : Nat) (hx0 : 0 < xs.length) (hf0 : f0 ≤ xs.length) (hj : j < ys.length) (hwd : wd ≤ 1000) (hx : xs.length ≤ 1000000) (hy : ys.length ≤ 1000000) (hless : ∀ i, i < f0 → cmpR (rowAt xs i) (rowAt ys j) < 0) :
    Calls Try.prog 55 #[.pointer p, .int .i64 f0, .pointer o, .int .i64 j] w (SeekRet xs (rowAt ys j) f0 w) := by
  have HS := Lib.hid h
  have HS' := Lib.hid h'
  have HL0 := Lib.hid hless
  obtain ⟨B, hB⟩ : ∃ B, w.heap.size = B := ⟨_, rfl⟩
  have HB := Lib.hid hB
  obtain ⟨g, a, c, K, rfl, hg, _, _⟩ := h.parts hx0
  have hgl : g < B := by rw [← hB]; exact (Array.getElem?_eq_some_iff.1 hg).1
  have HG := Lib.hid hg
  have K0 := Lib.hid (sk_start w (some ⟨g, 0, none⟩) o f0 j)
  rw [hB] at K0
  clear h h' hless hB hg
  go_enter Try.func55, Try.ntmps55
  go_wp2_with fail
  generalize World.alloc (World.alloc (World.alloc (World.alloc _ _) _) _) _ = W0 at *
  simp only [HB.out]
  go_loopw [9] (fun s wr => ∃ f st : Nat, s = .int .i64 st ∧ 1 ≤ st ∧ f ≤ xs.length ∧ f0 ≤ f ∧ st ≤ f + 1 ∧ Hid (∀ i, i < f → cmpR (rowAt xs i) (rowAt ys j) < 0) ∧ Hid (SK B w wr (some ⟨g, 0, none⟩) o f j)) (fun s _ => 2000002 - (intOf s).toNat)
  case atStart => exact ⟨f0, 1, rfl, Nat.le_refl _, hf0, Nat.le_refl _, by omega, HL0, K0⟩
  case round =>
    obtain ⟨f, st, rfl, hst, hf, hff, hsf, HL, HK⟩ := hrel
    obtain ⟨d0, d1, d2, d3, d4⟩ := HK.out.cells
    have HC : Hid (∀ q n, n < xs.length → Calls Try.prog 76 #[.pointer (some ⟨g, 0, none⟩), .int .i64 (n : Nat), .pointer o, .int .i64 j] (wr.drewN q) (Quiet (.int .i64 (cmpS (rowAt xs n) (rowAt ys j))) (wr.drewN q))) := Lib.hid (fun q n hn => segCompare_calls (HS.out.belowB HB.out (below_drewN HK.out.below q)) (HS'.out.belowB HB.out (below_drewN HK.out.below q)) n j hn hj hwd hx hy)
    have d5 : wr.cell? ⟨g, 1, none⟩ = some (.int .i64 xs.length) := (HK.out.below.cell (p := ⟨g, 1, none⟩) hgl).trans (segCells HG.out).2.1
    have KR : Hid (∀ near : Nat, (xs.length < f + st ∨ ¬ cmpR (rowAt xs (f + st - 1)) (rowAt ys j) < 0) → ((near = st - 1 ∧ st - 1 ≤ xs.length - f) ∨ near = xs.length - f) → ∀ q, Calls Try.prog 66 #[.int .i64 near, .func (.func 77) #[] #[.pointer (some ⟨B, 0, none⟩), .pointer (some ⟨B + 1, 0, none⟩), .pointer (some ⟨B + 2, 0, none⟩), .pointer (some ⟨B + 3, 0, none⟩)]] (wr.drewN q) (SearchRet (fun i => decide (0 ≤ cmpS (rowAt xs (f + i)) (rowAt ys j))) near (wr.drewN q))) := Lib.hid (by
      intro near hxx hnear q
      refine search68 _ _ _ _ near _ _ (by omega) (fun q2 i hi => ?_) (fun a b hab hb hp => ?_)
      · rw [World.drewN_drewN]
        exact close68 B (B + 1) (B + 2) (B + 3) _ o f j i _ _ (HK.out.drewN _).cells.1 (HK.out.drewN _).cells.2.1 (HK.out.drewN _).cells.2.2.1 (HK.out.drewN _).cells.2.2.2.1 (by omega) (HC.out _ _ (by omega))
      · simp only [decide_eq_true_eq] at *
        rcases Int.lt_or_le (cmpS (rowAt xs (f + b)) (rowAt ys j)) 0 with hlt | hge
        · have := (cmpS_lt _ _).2 (less_down HS.out.1 (show f + a ≤ f + b by omega) (by omega) ((cmpS_lt _ _).1 hlt))
          omega
        · exact hge)
    obtain ⟨cv, hcv⟩ : ∃ cv, cmpS (rowAt xs (f + st - 1)) (rowAt ys j) = cv := ⟨_, rfl⟩
    have hcv' := (cmpS_lt (rowAt xs (f + st - 1)) (rowAt ys j))
    rw [hcv] at hcv'
    by_cases hin : f + st ≤ xs.length
    · have cc : ∀ q, Calls Try.prog 76 #[.pointer (some ⟨g, 0, none⟩), .int .i64 ((f : Int) + (st : Int) - 1), .pointer o, .int .i64 j] (wr.drewN q) (Quiet (.int .i64 cv) (wr.drewN q)) := fun q => by
        have := HC.out q (f + st - 1) (by omega)
        rw [hcv, show ((f + st - 1 : Nat) : Int) = (f : Int) + (st : Int) - 1 by omega] at this
        exact this
      by_cases hlt : cv < 0
      · have HL2 : Hid (∀ i, i < f + st → cmpR (rowAt xs i) (rowAt ys j) < 0) := Lib.hid (fun i hi => less_down HS.out.1 (show i ≤ f + st - 1 by omega) (by omega) (hcv'.1 hlt))
        clear hcv hcv'
        have t1 : ((f : Int) + (st : Int) ≤ (xs.length : Int)) := by omega
        go_wp2_with fail
        go_quiet ((exact Calls.quiet_of (cc _)))
        go_wp2_with fail
        go_roundw
        case rel => exact ⟨f + st, st * 2, by go_num, by omega, hin, by omega, by omega, HL2, Lib.hid (by have := (HK.out.drewN ?n1).set (f + st); exact this)⟩
        case measure => simp [intOf]; omega
      · have HX : Hid (xs.length < f + st ∨ ¬ cmpR (rowAt xs (f + st - 1)) (rowAt ys j) < 0) := Lib.hid (by exact .inr (fun e => hlt (hcv'.2 e)))
        clear hcv hcv'
        have t1 : ((f : Int) + (st : Int) ≤ (xs.length : Int)) := by omega
        go_wp2_with fail
        go_quiet ((exact Calls.quiet_of (cc _)))
        go_wp2_with fail
        go_region
        obtain ⟨near, hnr, hnc⟩ : ∃ near : Nat, min ((st : Int) - 1) ((xs.length : Int) - (f : Int)) = (near : Int) ∧ ((near = st - 1 ∧ st - 1 ≤ xs.length - f) ∨ near = xs.length - f) := ⟨min (st - 1) (xs.length - f), by omega, by omega⟩
        have CS := KR.out near HX.out hnc
        have HN := Lib.hid hnc
        simp only [hnr]
        clear hnc hnr
        go_wp2_with fail
        go_region_with (first | (go_at_call 66; refine (CS _).mono ?_; rintro e w2 ⟨k, q, rfl, hk, rfl⟩))
        all_goals
          have SA := Lib.hid (seek_math HS.out.1 hf HL.out hst (HX.out.elim .inl (fun h => .inr (by omega))) HN.out hk)
          have hkb : f + k ≤ 1000000 := by have := SA.out.1; omega
          clear hk CS
          go_wp2_with fail
          go_ret
          exact ⟨f + k, ret_i (by rw [IntKind.wrap_i64]; omega), SA.out, by omega, by rw [HB.out]; exact below_drewN HK.out.below _⟩
    · have HX : Hid (xs.length < f + st ∨ ¬ cmpR (rowAt xs (f + st - 1)) (rowAt ys j) < 0) := Lib.hid (.inl (by omega))
      clear hcv hcv'
      have t1 : ¬ ((f : Int) + (st : Int) ≤ (xs.length : Int)) := by omega
      have t2 : decide ((f : Int) + (st : Int) ≤ (xs.length : Int)) = false := decide_eq_false t1
      go_wp2_with fail
      go_quiet (fail)
      go_wp2_with fail
      go_region
      obtain ⟨near, hnr, hnc⟩ : ∃ near : Nat, min ((st : Int) - 1) ((xs.length : Int) - (f : Int)) = (near : Int) ∧ ((near = st - 1 ∧ st - 1 ≤ xs.length - f) ∨ near = xs.length - f) := ⟨min (st - 1) (xs.length - f), by omega, by omega⟩
      have CS := KR.out near HX.out hnc
      have HN := Lib.hid hnc
      simp only [hnr]
      clear hnc hnr
      go_wp2_with fail
      go_region_with (first | (go_at_call 66; refine (CS _).mono ?_; rintro e w2 ⟨k, q, rfl, hk, rfl⟩))
      all_goals
        have SA := Lib.hid (seek_math HS.out.1 hf HL.out hst (HX.out.elim .inl (fun h => .inr (by omega))) HN.out hk)
        have hkb : f + k ≤ 1000000 := by have := SA.out.1; omega
        clear hk CS
        go_wp2_with fail
        go_ret
        exact ⟨f + k, ret_i (by rw [IntKind.wrap_i64]; omega), SA.out, by omega, by rw [HB.out]; exact below_drewN HK.out.below _⟩
end Go.Proofs.Ytepkmhcchmladaa
