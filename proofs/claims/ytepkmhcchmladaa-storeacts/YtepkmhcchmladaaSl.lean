import Derived.Test.YtepkmhcchmladaaSg20
/- And, Minus, Or of relations, told with where the result lies: it is a source, or it lies in blocks that the call has made. Written by mksl.py. -/
namespace Go.Proofs.Ytepkmhcchmladaa
open Go.RowKit
set_option linter.unusedVariables false
set_option linter.unusedSimpArgs false

theorem owns_later {B : Nat} {w W : World} {t : TypeId} {k n : Nat} {v : Value} {xs : List Value} (h : w.ownsRow B t k v n xs) (hl : Later B w W) : W.ownsRow B t k v n xs := by
  refine ⟨h.1, ?_⟩
  rcases h.2 with h1 | ⟨r, cap, cur, rfl, hb, hh, hrest⟩
  · exact .inl h1
  · exact .inr ⟨r, cap, cur, rfl, hb, (hl.2 r hb (Array.getElem?_eq_some_iff.1 hh).1).trans hh, hrest⟩
theorem GSeg.later {B : Nat} {w W : World} {g wd : Nat} {T : List (List Int)} (x : GSeg B w g wd T) (hl : Later B w W) : GSeg B W g wd T := by
  rcases x with ⟨h1, h2, h3⟩ | ⟨h, K, x⟩
  · exact .inl ⟨(hl.2 g h2 (Array.getElem?_eq_some_iff.1 h1).1).trans h1, h2, h3⟩
  · exact .inr ⟨h, K, ⟨(hl.2 g x.gB (Array.getElem?_eq_some_iff.1 x.blk).1).trans x.blk, (hl.2 h x.hB (Array.getElem?_eq_some_iff.1 x.lst).1).trans x.lst, x.len, x.ne, x.gB, x.hB, fun k hk => owns_later (x.own k hk) hl, x.far, x.sep⟩⟩
/-- A relation that is one of the sources, or lies in blocks that the call has made. -/
def SegOp (w : World) (src : List (Option Addr × List (List Int))) (wd : Nat) (rs : List (List Int)) (e : Ending) (w' : World) : Prop :=
  ∃ p, e = .returned (.pointer p) ∧ Seg w' p wd rs ∧ Below w.heap.size w w' ∧ ((p, rs) ∈ src ∨ ∀ W, Later w.heap.size w' W → Seg W p wd rs)
set_option maxRecDepth 100000 in
set_option maxHeartbeats 4000000 in
theorem filterL_calls {w : World} {p o : Option Addr} {wd : Nat} {xs ys : List (List Int)} (h : Seg w p wd xs) (h' : Seg w o wd ys) (b : Bool) (hwd : wd ≤ 1000) (hx : xs.length ≤ 1000000) (hy : ys.length ≤ 1000000) :
    Calls Try.prog 54 #[.pointer p, .pointer o, .bool b] w (SegOp w [(p, xs)] wd (fltR b ys xs)) := by
  have cl := segLen_calls h
  have cl' := segLen_calls h'
  have cw := segWidth_calls h
  have cw' := segWidth_calls h'
  have HS := Lib.hid h
  have HS' := Lib.hid h'
  obtain ⟨B, hB⟩ : ∃ B, w.heap.size = B := ⟨_, rfl⟩
  have HB := Lib.hid hB
  have HN := Lib.hid (gseg_new w wd)
  have HNB := Lib.hid ((Below.refl w.heap.size w).alloc (Nat.le_refl _) (.cells #[.int .i64 wd, .int .i64 0, .slice none 0 0] 61))
  rw [hB] at HN HNB
  clear h h' hB
  by_cases h0 : ys.length = 0
  · obtain rfl : ys = [] := List.eq_nil_of_length_eq_zero h0
    clear h0
    cases b
    · have E : Hid (fltR false [] xs = xs) := Lib.hid (by unfold fltR; simp)
      go_enter Try.func54, Try.ntmps54
      go_wp2_with (first | (go_at_call 12; refine cl'.mono ?_; rintro e w' ⟨rfl, rfl⟩))
      go_ret
      exact ⟨p, rfl, by rw [E.out]; exact HS.out, Below.refl _ _, .inl (by rw [E.out]; exact List.mem_cons_self)⟩
    · have E : Hid (fltR true [] xs = []) := Lib.hid (by unfold fltR; simp)
      go_enter Try.func54, Try.ntmps54
      go_wp2_with (first | (go_at_call 12; refine cl'.mono ?_; rintro e w' ⟨rfl, rfl⟩) | (go_at_call 36; refine cw.mono ?_; rintro e w' ⟨rfl, rfl⟩))
      go_ret
      exact ⟨_, rfl, by rw [E.out, HB.out]; exact HN.out.seg List.Pairwise.nil (fun r hr => by cases hr), by rw [HB.out]; exact HNB.out, .inr (fun X hX => by rw [E.out, HB.out]; rw [HB.out] at hX; exact (HN.out.later hX).seg List.Pairwise.nil (fun r hr => by cases hr))⟩
  · have t1 : ((ys.length : Int) == 0) = false := beq_eq_false_iff_ne.2 (by omega)
    have h0' : 0 < ys.length := by omega
    go_enter Try.func54, Try.ntmps54
    go_wp2_with fail
    refine cl'.mono ?_
    rintro e w' ⟨rfl, rfl⟩
    go_wp2_with fail
    refine cw'.mono ?_
    rintro e w' ⟨rfl, rfl⟩
    go_wp2_with fail
    refine cw.mono ?_
    rintro e w' ⟨rfl, rfl⟩
    go_wp2_with fail
    refine cw.mono ?_
    rintro e w' ⟨rfl, rfl⟩
    go_wp2_with fail
    simp only [HB.out]
    have cl2 := segLen_calls (HS.out.belowB HB.out HNB.out)
    clear cl cl' cw cw'
    generalize World.alloc w _ = w1 at *
    refine cl2.mono ?_
    rintro e w' ⟨rfl, rfl⟩
    clear cl2
    go_wp2_with fail
    go_loopw [33, 8] (fun s s8 wr => ∃ i n : Nat, i ≤ xs.length ∧ n ≤ ys.length ∧ s = .int .i64 i ∧ s8 = .int .i64 n ∧ Hid (GSeg B wr B wd (fltR b ys (xs.take i))) ∧ Hid (Below B w wr) ∧ Hid (∀ q, q < n → i < xs.length → cmpR (rowAt ys q) (rowAt xs i) < 0)) (fun s _ _ => xs.length - (intOf s).toNat)
    case atStart => exact ⟨0, 0, Nat.zero_le _, Nat.zero_le _, rfl, rfl, HN, HNB, Lib.hid (fun q hq => by omega)⟩
    case round =>
      obtain ⟨i, n, hi, hn, rfl, rfl, HG, HW, HL⟩ := hrel
      have hBr : B ≤ wr.heap.size := by have := HW.out.size; rw [HB.out] at this; exact this
      by_cases hlt : i < xs.length
      · have cs := seek_calls (HS'.out.belowB HB.out HW.out) (HS.out.belowB HB.out HW.out) n i h0' hn hlt hwd hy hx (fun q hq => HL.out q hq hlt)
        go_wp2_with fail
        refine cs.mono ?_
        rintro e w2 ⟨m, rfl, hsk, hm, hb2⟩
        have HSK := Lib.hid hsk
        have hml : m ≤ ys.length := hsk.1
        have HW2 : Hid (Below B w w2) := Lib.hid (HW.out.trans (hb2.mono hBr))
        have HG2 : Hid (GSeg B w2 B wd (fltR b ys (xs.take i))) := Lib.hid (HG.out.below hb2)
        have HL2 : Hid (∀ q, q < m → i + 1 < xs.length → cmpR (rowAt ys q) (rowAt xs (i + 1)) < 0) := Lib.hid (fun q hq h1 => cmpR_trans (HSK.out.2.1 q hq) (sorted_at HS.out.1 (Nat.lt_succ_self i) h1))
        have cm := match_calls (HS'.out.belowB HB.out HW2.out) (HS.out.belowB HB.out HW2.out) m i h0' hlt hwd hy hx (by omega)
        have hde : decide (m < ys.length ∧ rowAt ys m = rowAt xs i) = decide (rowAt xs i ∈ ys) := decide_eq_decide.2 (seek_mem HS'.out.1 hsk)
        rw [hde] at cm
        clear cs hde hsk hb2 HG HW HL
        obtain ⟨c, hc⟩ : ∃ c, decide (rowAt xs i ∈ ys) = c := ⟨_, rfl⟩
        rw [hc] at cm
        have HC := Lib.hid hc
        clear hc
        go_wp2_with fail
        refine cm.mono ?_
        rintro e w3 ⟨rfl, q3, rfl⟩
        clear cm
        have hfl : (fltR b ys (xs.take i)).length ≤ 1000000 := by have := flt_len b ys (xs.take i); simp at this; omega
        by_cases hcb : c = b
        · subst hcb
          have ct := take_calls (B := B) (HG2.out.below (below_drewN (Below.refl _ _) q3)) HS.out HB.out (below_drewN HW2.out q3) i (i + 1) (by omega) (by omega) (by omega) hwd hx hfl
          rw [show ((i + 1 : Nat) : Int) = (i : Int) + 1 by omega] at ct
          have FT : Hid (fltR c ys (xs.take i) ++ cut xs i (i + 1) = fltR c ys (xs.take (i + 1))) := Lib.hid (by rw [flt_take hlt, if_pos HC.out])
          rw [FT.out] at ct
          go_wp2_with fail
          refine ct.mono ?_
          rintro e w4 ⟨rfl, hg4, hb4⟩
          have HG4 := Lib.hid hg4
          have HW4 := Lib.hid hb4
          clear ct hg4 hb4
          go_wp2_with fail
          go_roundw
          case rel => exact ⟨i + 1, m, by omega, hml, by go_num, rfl, HG4, HW4, HL2⟩
          case measure => simp [intOf]; omega
        · have t2 : (c == b) = false := by simpa using hcb
          have t3 : decide (c = b) = false := decide_eq_false hcb
          have FT : Hid (fltR b ys (xs.take (i + 1)) = fltR b ys (xs.take i)) := Lib.hid (by rw [flt_take hlt, HC.out, if_neg hcb])
          go_wp2_with fail
          go_roundw
          case rel => exact ⟨i + 1, m, by omega, hml, by go_num, rfl, Lib.hid (by rw [FT.out]; exact HG2.out.below (below_drewN (Below.refl _ _) q3)), Lib.hid (below_drewN HW2.out q3), HL2⟩
          case measure => simp [intOf]; omega
      · obtain rfl : i = xs.length := by omega
        have HG5 : Hid (GSeg B wr B wd (fltR b ys xs)) := Lib.hid (by have := HG.out; rw [List.take_length] at this; exact this)
        go_wp2_with fail
        go_ret
        exact ⟨_, rfl, HG5.out.seg (flt_sorted HS.out.1) (fun r hr => HS.out.2.1 r (flt_sub hr)), by rw [HB.out]; exact HW.out, .inr (fun X hX => by rw [HB.out] at hX; exact (HG5.out.later hX).seg (flt_sorted HS.out.1) (fun r hr => HS.out.2.1 r (flt_sub hr)))⟩


theorem andL_calls {w : World} {p o : Option Addr} {wd : Nat} {xs ys : List (List Int)} (h : Seg w p wd xs) (h' : Seg w o wd ys) (hwd : wd ≤ 1000) (hx : xs.length ≤ 1000000) (hy : ys.length ≤ 1000000) :
    Calls Try.prog 28 #[.pointer p, .pointer o] w (SegOp w [(p, xs)] wd (andR xs ys)) := by
  have cc := filterL_calls h h' true hwd hx hy
  rw [flt_true] at cc
  go_enter Try.func28, Try.ntmps28
  go_wp2_with fail
  refine cc.mono ?_
  rintro e w1 ⟨r, rfl, h1, h2, h3⟩
  go_wp2_with fail
  go_ret
  exact ⟨r, rfl, h1, h2, h3⟩

theorem minusL_calls {w : World} {p o : Option Addr} {wd : Nat} {xs ys : List (List Int)} (h : Seg w p wd xs) (h' : Seg w o wd ys) (hwd : wd ≤ 1000) (hx : xs.length ≤ 1000000) (hy : ys.length ≤ 1000000) :
    Calls Try.prog 40 #[.pointer p, .pointer o] w (SegOp w [(p, xs)] wd (minusR xs ys)) := by
  have cc := filterL_calls h h' false hwd hx hy
  rw [flt_false] at cc
  go_enter Try.func40, Try.ntmps40
  go_wp2_with fail
  refine cc.mono ?_
  rintro e w1 ⟨r, rfl, h1, h2, h3⟩
  go_wp2_with fail
  go_ret
  exact ⟨r, rfl, h1, h2, h3⟩

set_option maxRecDepth 100000 in
set_option maxHeartbeats 4000000 in
theorem orL_calls {w : World} {p o : Option Addr} {wd : Nat} {xs ys : List (List Int)} (h : Seg w p wd xs) (h' : Seg w o wd ys) (hwd : wd ≤ 1000) (hxy : xs.length + ys.length ≤ 1000000) :
    Calls Try.prog 29 #[.pointer p, .pointer o] w (SegOp w [(p, xs), (o, ys)] wd (orR xs ys)) := by
  have cl' := segLen_calls h'
  have clq : ∀ q, Calls Try.prog 12 #[.pointer o] (w.drewN q) fun e w' => e = .returned (.int .i64 ys.length) ∧ w' = w.drewN q := fun q => (segLen_calls (h'.drewN q)).mono fun _ _ h => ⟨h.1, h.2.symm⟩
  have HS := Lib.hid h
  have HS' := Lib.hid h'
  obtain ⟨B, hB⟩ : ∃ B, w.heap.size = B := ⟨_, rfl⟩
  have HB := Lib.hid hB
  have HN := Lib.hid (gseg_new w wd)
  have HNB := Lib.hid ((Below.refl w.heap.size w).alloc (Nat.le_refl _) (.cells #[.int .i64 wd, .int .i64 0, .slice none 0 0] 61))
  rw [hB] at HN HNB
  by_cases hx0 : xs.length = 0
  · obtain rfl : xs = [] := List.eq_nil_of_length_eq_zero hx0
    have E : Hid (orR [] ys = ys) := Lib.hid (or_nil_left h'.1)
    obtain ⟨_, _, ⟨rfl, hw0, _⟩ | ⟨g, a, n, c, rfl, hg, hr⟩⟩ := h
    · clear h' hB hx0 hw0
      go_enter Try.func29, Try.ntmps29
      go_wp2_with fail
      go_ret
      exact ⟨o, rfl, by rw [E.out]; exact HS'.out, Below.refl _ _, .inl (by rw [E.out]; exact List.mem_cons_of_mem _ List.mem_cons_self)⟩
    · have c1 := (segCells hg).2.1
      clear h' hB hx0 hg hr
      by_cases hy0 : ys.length = 0
      · have E2 : Hid (orR [] ys = []) := Lib.hid (by rw [List.eq_nil_of_length_eq_zero hy0]; rfl)
        rw [hy0] at cl' clq
        go_enter Try.func29, Try.ntmps29
        go_wp2_with fail
        refine cl'.mono ?_
        rintro e w' ⟨rfl, rfl⟩
        go_wp2_with fail
        go_quiet ((exact Calls.quiet_of_same (clq _)))
        go_wp2_with fail
        go_ret
        exact ⟨_, rfl, by rw [E2.out]; exact HS.out.drewN _, below_drewN (Below.refl _ _) _, .inl (by rw [E2.out]; exact List.mem_cons_self)⟩
      · have t1 : decide ((0 : Int) < (ys.length : Int)) = true := decide_eq_true (by omega)
        go_enter Try.func29, Try.ntmps29
        go_wp2_with fail
        refine cl'.mono ?_
        rintro e w' ⟨rfl, rfl⟩
        go_wp2_with fail
        go_ret
        exact ⟨o, rfl, by rw [E.out]; exact HS'.out, Below.refl _ _, .inl (by rw [E.out]; exact List.mem_cons_of_mem _ List.mem_cons_self)⟩
  · have hx0' : 0 < xs.length := by omega
    have hx : xs.length ≤ 1000000 := by omega
    have hy : ys.length ≤ 1000000 := by omega
    have t1 : ((xs.length : Int) == 0) = false := beq_eq_false_iff_ne.2 (by omega)
    obtain ⟨g, a, c, K, rfl, hg, _, _⟩ := h.parts hx0'
    have hgl : g < B := by rw [← hB]; exact (Array.getElem?_eq_some_iff.1 hg).1
    have c0 := (segCells hg).1
    have c1 := (segCells hg).2.1
    have HC1 := Lib.hid c1
    by_cases hy0 : ys.length = 0
    · have E2 : Hid (orR xs ys = xs) := Lib.hid (by rw [List.eq_nil_of_length_eq_zero hy0]; rfl)
      rw [hy0] at clq
      clear h h' hB hg
      go_enter Try.func29, Try.ntmps29
      go_wp2_with fail
      go_quiet ((exact Calls.quiet_of_same (clq _)))
      go_wp2_with fail
      go_ret
      exact ⟨_, rfl, by rw [E2.out]; exact HS.out.drewN _, below_drewN (Below.refl _ _) _, .inl (by rw [E2.out]; exact List.mem_cons_self)⟩
    · have t2 : ((ys.length : Int) == 0) = false := beq_eq_false_iff_ne.2 (by omega)
      have hy0' : 0 < ys.length := by omega
      obtain ⟨g', a', c', K', rfl, hg', _, _⟩ := h'.parts hy0'
      have d0 := (segCells hg').1
      have d1 := (segCells hg').2.1
      have hgs : g < w.heap.size := (Array.getElem?_eq_some_iff.1 hg).1
      have hgs' : g' < w.heap.size := (Array.getElem?_eq_some_iff.1 hg').1
      have hne : ¬ g' = w.heap.size := by omega
      have d1q : ∀ q, (w.drewN q).cell? ⟨g', 1, none⟩ = some (.int .i64 ys.length) := fun q => d1
      have d1a : ∀ q, ((w.drewN q).alloc (.cells #[.int .i64 wd, .int .i64 0, .slice none 0 0] 61)).cell? ⟨g', 1, none⟩ = some (.int .i64 ys.length) := fun q => (Below.cell (gseg_new' w q wd B HB.out).2 (p := ⟨g', 1, none⟩) (by rw [← hB]; exact hgs')).trans d1
      clear h h' hB hg hg' cl'
      go_enter Try.func29, Try.ntmps29
      go_wp2_with fail
      go_quiet ((exact Calls.quiet_of_same (clq _)))
      go_wp2_with fail
      simp only [HB.out]
      go_loopw [49, 6] (fun s s6 wr => ∃ (j f : Nat) (T : List (List Int)), j ≤ ys.length ∧ f ≤ xs.length ∧ s = .int .i64 j ∧ s6 = .int .i64 f ∧ Hid (OrInv xs ys j f T) ∧ Hid (GSeg B wr B wd T) ∧ Hid (Below B w wr)) (fun s _ _ => ys.length - (intOf s).toNat)
      case atStart => exact ⟨0, 0, [], Nat.zero_le _, Nat.zero_le _, rfl, rfl, Lib.hid (OrInv.start HS.out.1), Lib.hid (gseg_new' w _ wd B HB.out).1, Lib.hid (gseg_new' w _ wd B HB.out).2⟩
      case round =>
        obtain ⟨j, f, T, hj, hf, rfl, rfl, HI, HG, HW⟩ := hrel
        have hBr : B ≤ wr.heap.size := by have := HW.out.size; rw [HB.out] at this; exact this
        have hTl : T.length ≤ 1000000 := by have := HI.out.len; omega
        by_cases hlt : j < ys.length
        · have cs := seek_calls (HS.out.belowB HB.out HW.out) (HS'.out.belowB HB.out HW.out) f j hx0' hf hlt hwd hx hy (fun i hi => HI.out.first i hi hlt)
          go_wp2_with fail
          refine cs.mono ?_
          rintro e w2 ⟨n, rfl, hsk, hfn, hb2⟩
          have HSK := Lib.hid hsk
          have hnl : n ≤ xs.length := hsk.1
          have HW2 : Hid (Below B w w2) := Lib.hid (HW.out.trans (hb2.mono hBr))
          have HG2 : Hid (GSeg B w2 B wd T) := Lib.hid (HG.out.below hb2)
          clear cs hsk hb2 HG HW
          have ct := take_calls HG2.out HS.out HB.out HW2.out f n hfn hnl hx0' hwd hx hTl
          go_wp2_with fail
          refine ct.mono ?_
          rintro e w3 ⟨rfl, hg3, hb3⟩
          have HG3 := Lib.hid hg3
          have HW3 := Lib.hid hb3
          clear ct hg3 hb3 HG2 HW2
          have cm := match_calls (HS.out.belowB HB.out HW3.out) (HS'.out.belowB HB.out HW3.out) n j hx0' hlt hwd hx hy (by omega)
          have hde : decide (n < xs.length ∧ rowAt xs n = rowAt ys j) = decide (rowAt ys j ∈ xs) := decide_eq_decide.2 (seek_mem HS.out.1 HSK.out)
          rw [hde] at cm
          clear hde
          by_cases hm : rowAt ys j ∈ xs
          · rw [decide_eq_true hm] at cm
            have HI2 := Lib.hid (HI.out.match HS'.out.1 hlt HSK.out hfn hm)
            clear hm
            go_wp2_with fail
            refine cm.mono ?_
            rintro e w4 ⟨rfl, q4, rfl⟩
            clear cm
            go_wp2_with fail
            go_roundw
            case rel => exact ⟨j + 1, n, _, by omega, hnl, by go_num, rfl, HI2, Lib.hid (HG3.out.below (below_drewN (Below.refl _ _) q4)), Lib.hid (below_drewN HW3.out q4)⟩
            case measure => simp [intOf]; omega
          · rw [decide_eq_false hm] at cm
            have HI2 := Lib.hid (HI.out.new HS'.out.1 hlt HSK.out hfn hm)
            clear hm
            go_wp2_with fail
            refine cm.mono ?_
            rintro e w4 ⟨rfl, q4, rfl⟩
            clear cm
            have ct2 := take_calls (HG3.out.below (below_drewN (Below.refl _ _) q4)) HS'.out HB.out (below_drewN HW3.out q4) j (j + 1) (by omega) (by omega) hy0' hwd hy (by rw [List.length_append, cut_len hfn hnl]; have := HI.out.len; omega)
            rw [show ((j + 1 : Nat) : Int) = (j : Int) + 1 by omega, cut_one hlt] at ct2
            go_wp2_with fail
            refine ct2.mono ?_
            rintro e w5 ⟨rfl, hg5, hb5⟩
            have HG5 := Lib.hid hg5
            have HW5 := Lib.hid hb5
            clear ct2 hg5 hb5
            go_wp2_with fail
            go_roundw
            case rel => exact ⟨j + 1, n, _, by omega, hnl, by go_num, rfl, HI2, HG5, HW5⟩
            case measure => simp [intOf]; omega
        · obtain rfl : j = ys.length := by omega
          have e1 : wr.cell? ⟨g, 1, none⟩ = some (.int .i64 xs.length) := (HW.out.cell (p := ⟨g, 1, none⟩) hgl).trans HC1.out
          have ct3 := take_calls HG.out HS.out HB.out HW.out f xs.length hf (Nat.le_refl _) hx0' hwd hx hTl
          rw [HI.out.done HS.out.1 hf] at ct3
          go_wp2_with fail
          refine ct3.mono ?_
          rintro e w5 ⟨rfl, hg5, hb5⟩
          have HG5 := Lib.hid hg5
          have HW5 := Lib.hid hb5
          clear ct3 hg5 hb5
          go_wp2_with fail
          go_ret
          refine ⟨_, rfl, HG5.out.seg (or_sorted HS.out.1 ys) (fun r hr => ?_), by rw [HB.out]; exact HW5.out, .inr (fun X hX => by rw [HB.out] at hX; exact (HG5.out.later hX).seg (or_sorted HS.out.1 ys) (fun r hr => by rcases (mem_or HS.out.1 ys r).1 hr with h | h; exact HS.out.2.1 r h; exact HS'.out.2.1 r h))⟩
          rcases (mem_or HS.out.1 ys r).1 hr with h | h
          · exact HS.out.2.1 r h
          · exact HS'.out.2.1 r h

end Go.Proofs.Ytepkmhcchmladaa
