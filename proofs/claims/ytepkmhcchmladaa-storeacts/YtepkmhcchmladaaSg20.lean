import Derived.Test.YtepkmhcchmladaaSg19
/- Contract of Or. -/
namespace Go.Proofs.Ytepkmhcchmladaa
open Go.RowKit
set_option linter.unusedVariables false
set_option linter.unusedSimpArgs false

theorem or_len (ys xs : List (List Int)) : (orR xs ys).length ≤ xs.length + ys.length := by
  unfold orR
  induction ys generalizing xs with
  | nil => simp
  | cons y ys ih => have h1 := ih (ins xs y); have h2 := ins_len xs y; simp only [List.foldl_cons, List.length_cons]; omega
theorem or_nil_left {ys : List (List Int)} (hs : SortedR ys) : orR [] ys = ys := sorted_ext (or_sorted List.Pairwise.nil _) hs (fun x => by rw [mem_or List.Pairwise.nil]; simp)
theorem or_nil_right (xs : List (List Int)) : orR xs [] = xs := rfl

/-- The union while rows of the second are merged into the first. -/
structure OrInv (xs ys : List (List Int)) (j f : Nat) (T : List (List Int)) : Prop where
  sorted : SortedR (T ++ xs.drop f)
  mem : ∀ r, r ∈ T ++ xs.drop f ↔ r ∈ xs ∨ r ∈ ys.take j
  less : ∀ r ∈ T, j < ys.length → cmpR r (rowAt ys j) < 0
  first : ∀ i, i < f → j < ys.length → cmpR (rowAt xs i) (rowAt ys j) < 0
  len : T.length ≤ f + j
theorem OrInv.start {xs ys : List (List Int)} (h : SortedR xs) : OrInv xs ys 0 0 [] :=
  ⟨by simpa using h, fun r => by simp, (fun r hr => by cases hr), (fun i hi => by omega), by simp⟩
theorem cut_drop {xs : List (List Int)} {f n : Nat} (h : f ≤ n) : cut xs f n ++ xs.drop n = xs.drop f := by
  unfold cut
  have := List.take_append_drop (n - f) (xs.drop f)
  rw [List.drop_drop, show f + (n - f) = n by omega] at this
  exact this
theorem mem_cut {xs : List (List Int)} {f n : Nat} {r : List Int} (hn : n ≤ xs.length) (h : r ∈ cut xs f n) : ∃ i, i < n ∧ rowAt xs i = r := by
  obtain ⟨q, hq, e⟩ := List.getElem_of_mem h
  have hq' : q < n - f := by simp [cut] at hq; omega
  refine ⟨f + q, by omega, ?_⟩
  have hl : f + q < xs.length := by omega
  rw [← e]
  simp [cut, rowAt, hl]
theorem mem_drop {xs : List (List Int)} {n : Nat} {r : List Int} (h : r ∈ xs.drop n) : ∃ i, n ≤ i ∧ i < xs.length ∧ rowAt xs i = r := by
  obtain ⟨q, hq, e⟩ := List.getElem_of_mem h
  have hl : n + q < xs.length := by simp at hq; omega
  refine ⟨n + q, by omega, hl, ?_⟩
  rw [← e]
  simp [rowAt, hl]
theorem take_succ_mem {ys : List (List Int)} {j : Nat} (hj : j < ys.length) (r : List Int) : r ∈ ys.take (j + 1) ↔ r ∈ ys.take j ∨ r = rowAt ys j := by
  rw [List.take_succ_eq_append_getElem hj, show ys[j] = rowAt ys j by simp [rowAt, hj]]; simp
theorem OrInv.match {xs ys : List (List Int)} {j f n : Nat} {T : List (List Int)} (I : OrInv xs ys j f T) (hy : SortedR ys) (hj : j < ys.length) (hS : SeekAt xs (rowAt ys j) n) (hf : f ≤ n) (hm : rowAt ys j ∈ xs) : OrInv xs ys (j + 1) n (T ++ cut xs f n) := by
  have next : ∀ r, cmpR r (rowAt ys j) < 0 → j + 1 < ys.length → cmpR r (rowAt ys (j + 1)) < 0 := fun r h h1 => cmpR_trans h (sorted_at hy (Nat.lt_succ_self j) h1)
  refine ⟨?_, fun r => ?_, fun r hr h1 => ?_, fun i hi h1 => next _ (hS.2.1 i hi) h1, ?_⟩
  · rw [List.append_assoc, cut_drop hf]; exact I.sorted
  · rw [List.append_assoc, cut_drop hf, I.mem, take_succ_mem hj]
    constructor
    · rintro (h | h)
      · exact .inl h
      · exact .inr (.inl h)
    · rintro (h | h | h)
      · exact .inl h
      · exact .inr h
      · exact .inl (h ▸ hm)
  · rcases List.mem_append.1 hr with h | h
    · exact next r (I.less r h hj) h1
    · obtain ⟨i, hi, rfl⟩ := mem_cut hS.1 h
      exact next _ (hS.2.1 i hi) h1
  · have := I.len; rw [List.length_append, cut_len hf hS.1]; omega
theorem OrInv.new {xs ys : List (List Int)} {j f n : Nat} {T : List (List Int)} (I : OrInv xs ys j f T) (hy : SortedR ys) (hj : j < ys.length) (hS : SeekAt xs (rowAt ys j) n) (hf : f ≤ n) (hm : rowAt ys j ∉ xs) : OrInv xs ys (j + 1) n (T ++ cut xs f n ++ [rowAt ys j]) := by
  have next : ∀ r, cmpR r (rowAt ys j) < 0 → j + 1 < ys.length → cmpR r (rowAt ys (j + 1)) < 0 := fun r h h1 => cmpR_trans h (sorted_at hy (Nat.lt_succ_self j) h1)
  have low : ∀ r ∈ T ++ cut xs f n, cmpR r (rowAt ys j) < 0 := fun r hr => by
    rcases List.mem_append.1 hr with h | h
    · exact I.less r h hj
    · obtain ⟨i, hi, rfl⟩ := mem_cut hS.1 h
      exact hS.2.1 i hi
  have high : ∀ r ∈ xs.drop n, cmpR (rowAt ys j) r < 0 := fun r hr => by
    obtain ⟨i, h1, h2, rfl⟩ := mem_drop hr
    have h3 := hS.2.2 i h1 h2
    rcases cmpR_tri (rowAt xs i) (rowAt ys j) with h | h | h
    · exact absurd h h3
    · exact absurd (h ▸ rowAt_mem h2) hm
    · exact (cmpR_neg _ _).2 h
  have hs : SortedR ((T ++ cut xs f n) ++ xs.drop n) := by rw [List.append_assoc, cut_drop hf]; exact I.sorted
  obtain ⟨s1, s2, s3⟩ := List.pairwise_append.1 hs
  refine ⟨?_, fun r => ?_, fun r hr h1 => ?_, fun i hi h1 => next _ (hS.2.1 i hi) h1, ?_⟩
  · rw [List.append_assoc]
    refine List.pairwise_append.2 ⟨s1, ?_, fun a ha b hb => ?_⟩
    · exact List.pairwise_cons.2 ⟨fun b hb => high b hb, s2⟩
    · rcases List.mem_cons.1 hb with h | h
      · rw [h]; exact low a ha
      · exact s3 a ha b h
  · have e := I.mem r
    rw [← cut_drop hf, ← List.append_assoc] at e
    rw [take_succ_mem hj]
    simp only [List.mem_append, List.mem_singleton] at e ⊢
    constructor
    · rintro ((h | h) | h)
      · rcases e.1 (.inl h) with h | h
        · exact .inl h
        · exact .inr (.inl h)
      · exact .inr (.inr h)
      · rcases e.1 (.inr h) with h | h
        · exact .inl h
        · exact .inr (.inl h)
    · rintro (h | h | h)
      · rcases e.2 (.inl h) with h | h
        · exact .inl (.inl h)
        · exact .inr h
      · rcases e.2 (.inr h) with h | h
        · exact .inl (.inl h)
        · exact .inr h
      · exact .inl (.inr h)
  · rcases List.mem_append.1 hr with h | h
    · exact next r (low r h) h1
    · rw [List.mem_singleton.1 h]; exact sorted_at hy (Nat.lt_succ_self j) h1
  · have := I.len; rw [List.length_append, List.length_append, cut_len hf hS.1]; simp; omega
theorem OrInv.done {xs ys : List (List Int)} {f : Nat} {T : List (List Int)} (I : OrInv xs ys ys.length f T) (hx : SortedR xs) (hf : f ≤ xs.length) : T ++ cut xs f xs.length = orR xs ys := by
  have e : cut xs f xs.length = xs.drop f := by have := cut_drop (xs := xs) hf; simpa using this
  rw [e]
  refine sorted_ext I.sorted (or_sorted hx ys) (fun r => ?_)
  rw [I.mem, mem_or hx, List.take_length]
theorem gseg_new' (w : World) (n wd B : Nat) (hB : w.heap.size = B) : GSeg B ((w.drewN n).alloc (.cells #[.int .i64 wd, .int .i64 0, .slice none 0 0] 61)) B wd [] ∧ Below B w ((w.drewN n).alloc (.cells #[.int .i64 wd, .int .i64 0, .slice none 0 0] 61)) := by
  subst hB
  exact ⟨gseg_new (w.drewN n) wd, (below_drewN (Below.refl w.heap.size w) n).alloc (Nat.le_refl _) _⟩
theorem cut_one {ys : List (List Int)} {j : Nat} (h : j < ys.length) : cut ys j (j + 1) = [rowAt ys j] := by
  unfold cut; rw [show j + 1 - j = 1 by omega, List.drop_eq_getElem_cons h, List.take_succ_cons, List.take_zero]; simp [rowAt, h]

set_option maxRecDepth 100000 in
set_option maxHeartbeats 4000000 in
theorem or_calls {w : World} {p o : Option Addr} {wd : Nat} {xs ys : List (List Int)} (h : Seg w p wd xs) (h' : Seg w o wd ys) (hwd : wd ≤ 1000) (hxy : xs.length + ys.length ≤ 1000000) :
    Calls Try.prog 29 #[.pointer p, .pointer o] w (SegRet w wd (orR xs ys)) := by
  have cl' := segLen_calls h'
  have clq : ∀ q, Calls Try.prog 12 #[.pointer o] (w.drewN q) fun e w' => e = .returned (.int .i64 ys.length) ∧ w' = w.drewN q := fun q => (segLen_calls (h'.drewN q)).mono fun _ _ h => ⟨h.1, h.2.symm⟩
  have HS := Lib.hid h
  have HS' := Lib.hid h'
  obtain ⟨B, hB⟩ : ∃ B, w.heap.size = B := ⟨_, rfl⟩
  have HB := Lib.hid hB
  have HN := Lib.hid (gseg_new w wd)
  have HNB := Lib.hid ((Below.refl w.heap.size w).alloc (Nat.le_refl _) (.cells #[.int .i64 wd, .int .i64 0, .slice none 0 0] 61))
  rw [hB] at HN HNB
  by_cases hx0 : xs.length = 0
  · obtain rfl : xs = [] := List.eq_nil_of_length_eq_zero hx0
    have E : Hid (orR [] ys = ys) := Lib.hid (or_nil_left h'.1)
    obtain ⟨_, _, ⟨rfl, hw0, _⟩ | ⟨g, a, n, c, rfl, hg, hr⟩⟩ := h
    · clear h' hB hx0 hw0
      go_enter Try.func29, Try.ntmps29
      go_wp2_with fail
      go_ret
      exact ⟨o, rfl, by rw [E.out]; exact HS'.out, Below.refl _ _⟩
    · have c1 := (segCells hg).2.1
      clear h' hB hx0 hg hr
      by_cases hy0 : ys.length = 0
      · have E2 : Hid (orR [] ys = []) := Lib.hid (by rw [List.eq_nil_of_length_eq_zero hy0]; rfl)
        rw [hy0] at cl' clq
        go_enter Try.func29, Try.ntmps29
        go_wp2_with fail
        refine cl'.mono ?_
        rintro e w' ⟨rfl, rfl⟩
        go_wp2_with fail
        go_quiet ((exact Calls.quiet_of_same (clq _)))
        go_wp2_with fail
        go_ret
        exact ⟨_, rfl, by rw [E2.out]; exact HS.out.drewN _, below_drewN (Below.refl _ _) _⟩
      · have t1 : decide ((0 : Int) < (ys.length : Int)) = true := decide_eq_true (by omega)
        go_enter Try.func29, Try.ntmps29
        go_wp2_with fail
        refine cl'.mono ?_
        rintro e w' ⟨rfl, rfl⟩
        go_wp2_with fail
        go_ret
        exact ⟨o, rfl, by rw [E.out]; exact HS'.out, Below.refl _ _⟩
  · have hx0' : 0 < xs.length := by omega
    have hx : xs.length ≤ 1000000 := by omega
    have hy : ys.length ≤ 1000000 := by omega
    have t1 : ((xs.length : Int) == 0) = false := beq_eq_false_iff_ne.2 (by omega)
    obtain ⟨g, a, c, K, rfl, hg, _, _⟩ := h.parts hx0'
    have hgl : g < B := by rw [← hB]; exact (Array.getElem?_eq_some_iff.1 hg).1
    have c0 := (segCells hg).1
    have c1 := (segCells hg).2.1
    have HC1 := Lib.hid c1
    by_cases hy0 : ys.length = 0
    · have E2 : Hid (orR xs ys = xs) := Lib.hid (by rw [List.eq_nil_of_length_eq_zero hy0]; rfl)
      rw [hy0] at clq
      clear h h' hB hg
      go_enter Try.func29, Try.ntmps29
      go_wp2_with fail
      go_quiet ((exact Calls.quiet_of_same (clq _)))
      go_wp2_with fail
      go_ret
      exact ⟨_, rfl, by rw [E2.out]; exact HS.out.drewN _, below_drewN (Below.refl _ _) _⟩
    · have t2 : ((ys.length : Int) == 0) = false := beq_eq_false_iff_ne.2 (by omega)
      have hy0' : 0 < ys.length := by omega
      obtain ⟨g', a', c', K', rfl, hg', _, _⟩ := h'.parts hy0'
      have d0 := (segCells hg').1
      have d1 := (segCells hg').2.1
      have hgs : g < w.heap.size := (Array.getElem?_eq_some_iff.1 hg).1
      have hgs' : g' < w.heap.size := (Array.getElem?_eq_some_iff.1 hg').1
      have hne : ¬ g' = w.heap.size := by omega
      have d1q : ∀ q, (w.drewN q).cell? ⟨g', 1, none⟩ = some (.int .i64 ys.length) := fun q => d1
      have d1a : ∀ q, ((w.drewN q).alloc (.cells #[.int .i64 wd, .int .i64 0, .slice none 0 0] 61)).cell? ⟨g', 1, none⟩ = some (.int .i64 ys.length) := fun q => (Below.cell (gseg_new' w q wd B HB.out).2 (p := ⟨g', 1, none⟩) (by rw [← hB]; exact hgs')).trans d1
      clear h h' hB hg hg' cl'
      go_enter Try.func29, Try.ntmps29
      go_wp2_with fail
      go_quiet ((exact Calls.quiet_of_same (clq _)))
      go_wp2_with fail
      simp only [HB.out]
      go_loopw [49, 6] (fun s s6 wr => ∃ (j f : Nat) (T : List (List Int)), j ≤ ys.length ∧ f ≤ xs.length ∧ s = .int .i64 j ∧ s6 = .int .i64 f ∧ Hid (OrInv xs ys j f T) ∧ Hid (GSeg B wr B wd T) ∧ Hid (Below B w wr)) (fun s _ _ => ys.length - (intOf s).toNat)
      case atStart => exact ⟨0, 0, [], Nat.zero_le _, Nat.zero_le _, rfl, rfl, Lib.hid (OrInv.start HS.out.1), Lib.hid (gseg_new' w _ wd B HB.out).1, Lib.hid (gseg_new' w _ wd B HB.out).2⟩
      case round =>
        obtain ⟨j, f, T, hj, hf, rfl, rfl, HI, HG, HW⟩ := hrel
        have hBr : B ≤ wr.heap.size := by have := HW.out.size; rw [HB.out] at this; exact this
        have hTl : T.length ≤ 1000000 := by have := HI.out.len; omega
        by_cases hlt : j < ys.length
        · have cs := seek_calls (HS.out.belowB HB.out HW.out) (HS'.out.belowB HB.out HW.out) f j hx0' hf hlt hwd hx hy (fun i hi => HI.out.first i hi hlt)
          go_wp2_with fail
          refine cs.mono ?_
          rintro e w2 ⟨n, rfl, hsk, hfn, hb2⟩
          have HSK := Lib.hid hsk
          have hnl : n ≤ xs.length := hsk.1
          have HW2 : Hid (Below B w w2) := Lib.hid (HW.out.trans (hb2.mono hBr))
          have HG2 : Hid (GSeg B w2 B wd T) := Lib.hid (HG.out.below hb2)
          clear cs hsk hb2 HG HW
          have ct := take_calls HG2.out HS.out HB.out HW2.out f n hfn hnl hx0' hwd hx hTl
          go_wp2_with fail
          refine ct.mono ?_
          rintro e w3 ⟨rfl, hg3, hb3⟩
          have HG3 := Lib.hid hg3
          have HW3 := Lib.hid hb3
          clear ct hg3 hb3 HG2 HW2
          have cm := match_calls (HS.out.belowB HB.out HW3.out) (HS'.out.belowB HB.out HW3.out) n j hx0' hlt hwd hx hy (by omega)
          have hde : decide (n < xs.length ∧ rowAt xs n = rowAt ys j) = decide (rowAt ys j ∈ xs) := decide_eq_decide.2 (seek_mem HS.out.1 HSK.out)
          rw [hde] at cm
          clear hde
          by_cases hm : rowAt ys j ∈ xs
          · rw [decide_eq_true hm] at cm
            have HI2 := Lib.hid (HI.out.match HS'.out.1 hlt HSK.out hfn hm)
            clear hm
            go_wp2_with fail
            refine cm.mono ?_
            rintro e w4 ⟨rfl, q4, rfl⟩
            clear cm
            go_wp2_with fail
            go_roundw
            case rel => exact ⟨j + 1, n, _, by omega, hnl, by go_num, rfl, HI2, Lib.hid (HG3.out.below (below_drewN (Below.refl _ _) q4)), Lib.hid (below_drewN HW3.out q4)⟩
            case measure => simp [intOf]; omega
          · rw [decide_eq_false hm] at cm
            have HI2 := Lib.hid (HI.out.new HS'.out.1 hlt HSK.out hfn hm)
            clear hm
            go_wp2_with fail
            refine cm.mono ?_
            rintro e w4 ⟨rfl, q4, rfl⟩
            clear cm
            have ct2 := take_calls (HG3.out.below (below_drewN (Below.refl _ _) q4)) HS'.out HB.out (below_drewN HW3.out q4) j (j + 1) (by omega) (by omega) hy0' hwd hy (by rw [List.length_append, cut_len hfn hnl]; have := HI.out.len; omega)
            rw [show ((j + 1 : Nat) : Int) = (j : Int) + 1 by omega, cut_one hlt] at ct2
            go_wp2_with fail
            refine ct2.mono ?_
            rintro e w5 ⟨rfl, hg5, hb5⟩
            have HG5 := Lib.hid hg5
            have HW5 := Lib.hid hb5
            clear ct2 hg5 hb5
            go_wp2_with fail
            go_roundw
            case rel => exact ⟨j + 1, n, _, by omega, hnl, by go_num, rfl, HI2, HG5, HW5⟩
            case measure => simp [intOf]; omega
        · obtain rfl : j = ys.length := by omega
          have e1 : wr.cell? ⟨g, 1, none⟩ = some (.int .i64 xs.length) := (HW.out.cell (p := ⟨g, 1, none⟩) hgl).trans HC1.out
          have ct3 := take_calls HG.out HS.out HB.out HW.out f xs.length hf (Nat.le_refl _) hx0' hwd hx hTl
          rw [HI.out.done HS.out.1 hf] at ct3
          go_wp2_with fail
          refine ct3.mono ?_
          rintro e w5 ⟨rfl, hg5, hb5⟩
          have HG5 := Lib.hid hg5
          have HW5 := Lib.hid hb5
          clear ct3 hg5 hb5
          go_wp2_with fail
          go_ret
          refine ⟨_, rfl, HG5.out.seg (or_sorted HS.out.1 ys) (fun r hr => ?_), by rw [HB.out]; exact HW5.out⟩
          rcases (mem_or HS.out.1 ys r).1 hr with h | h
          · exact HS.out.2.1 r h
          · exact HS'.out.2.1 r h
end Go.Proofs.Ytepkmhcchmladaa
