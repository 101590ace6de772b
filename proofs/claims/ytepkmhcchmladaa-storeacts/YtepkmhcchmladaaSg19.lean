import Derived.Test.YtepkmhcchmladaaSg18
/- Contracts of filter, And, Minus. -/
namespace Go.Proofs.Ytepkmhcchmladaa
open Go.RowKit
set_option linter.unusedVariables false
set_option linter.unusedSimpArgs false

def rvOf (v : Value) (C : List Int) : RV := match v with
  | .slice a _ c => (a, C, c)
  | _ => (none, C, 0)
theorem rvOf_col (v : Value) (C : List Int) : (rvOf v C).2.1 = C := by unfold rvOf; split <;> rfl
/-- A relation under way is a relation when its rows are in order. -/
theorem GSeg.seg {B : Nat} {w : World} {g wd : Nat} {T : List (List Int)} (x : GSeg B w g wd T) (hs : SortedR T) (hw : ∀ r ∈ T, r.length = wd) : Seg w (some ⟨g, 0, none⟩) wd T := by
  refine ⟨hs, hw, .inr ?_⟩
  rcases x with ⟨h1, _, rfl⟩ | ⟨h, K, x⟩
  · exact ⟨g, none, 0, 0, rfl, h1, .inl rfl⟩
  · refine ⟨g, some ⟨h, 0, none⟩, wd, wd, rfl, x.blk, .inr ⟨rfl, (List.range wd).map (fun k => rvOf (atK K k) (colOf T k)), ?_, ?_, ?_⟩⟩
    · rw [List.map_map]; unfold colsOf
      exact List.map_congr_left fun k _ => rvOf_col _ _
    · refine .inr ⟨h, 0, rfl, (Array.getElem?_eq_some_iff.1 x.lst).1, fun i hi => ?_⟩
      have hi' : i < wd := by simpa using hi
      rw [Nat.zero_add, (x.colCell hi').1]
      obtain ⟨a, c, he, _⟩ := x.shape hi'
      have : atV ((List.range wd).map (fun k => rvOf (atK K k) (colOf T k))) i = rvOf (atK K i) (colOf T i) := by simp [atV, hi']
      rw [this, he]; rfl
    · intro y hy
      obtain ⟨k, hk, rfl⟩ := List.mem_map.1 hy
      have hk' : k < wd := by simpa using hk
      obtain ⟨a, c, he, hc⟩ := x.shape hk'
      obtain ⟨a', c', he', hr⟩ := row_of_owns (x.own k hk')
      rw [he] at he'
      cases he'
      rw [he]
      exact ⟨hr, hc⟩

theorem mem_rowAt {rs : List (List Int)} {r : List Int} (h : r ∈ rs) : ∃ i, i < rs.length ∧ rowAt rs i = r := by
  obtain ⟨i, hi, e⟩ := List.getElem_of_mem h
  exact ⟨i, hi, by simp [rowAt, hi, e]⟩
theorem seek_mem {ys : List (List Int)} {r : List Int} {n : Nat} (hs : SortedR ys) (h : SeekAt ys r n) : (n < ys.length ∧ rowAt ys n = r) ↔ r ∈ ys := by
  constructor
  · rintro ⟨h1, rfl⟩; exact rowAt_mem h1
  · intro hm
    obtain ⟨i, hi, rfl⟩ := mem_rowAt hm
    have h1 : n ≤ i := by
      rcases Nat.lt_or_ge i n with hlt | hge
      · have := h.2.1 i hlt; rw [cmpR_self] at this; omega
      · exact hge
    rcases Nat.eq_or_lt_of_le h1 with e | hlt
    · subst e; exact ⟨hi, rfl⟩
    · have h2 := h.2.2 n (Nat.le_refl _) (by omega)
      exact absurd (sorted_at hs hlt hi) h2
/-- The rows that are, or are not, among others. -/
def fltR (b : Bool) (ys xs : List (List Int)) : List (List Int) := xs.filter fun r => decide (r ∈ ys) == b
theorem flt_take {b : Bool} {ys xs : List (List Int)} {i : Nat} (h : i < xs.length) : fltR b ys (xs.take (i + 1)) = if (decide (rowAt xs i ∈ ys)) = b then fltR b ys (xs.take i) ++ cut xs i (i + 1) else fltR b ys (xs.take i) := by
  have e1 : cut xs i (i + 1) = [rowAt xs i] := by
    unfold cut; rw [show i + 1 - i = 1 by omega, List.drop_eq_getElem_cons h, List.take_succ_cons, List.take_zero]; simp [rowAt, h]
  unfold fltR
  rw [e1, List.take_succ_eq_append_getElem h, List.filter_append, show xs[i] = rowAt xs i by simp [rowAt, h]]
  by_cases e : decide (rowAt xs i ∈ ys) = b
  · rw [if_pos e]; simp [e]
  · rw [if_neg e]
    have : (decide (rowAt xs i ∈ ys) == b) = false := by simpa using e
    simp [this]
theorem flt_true (ys xs : List (List Int)) : fltR true ys xs = andR xs ys := by unfold fltR andR; congr 1; funext r; simp
theorem flt_false (ys xs : List (List Int)) : fltR false ys xs = minusR xs ys := by unfold fltR minusR; congr 1; funext r; by_cases h : r ∈ ys <;> simp [h]
theorem flt_sorted {b : Bool} {ys xs : List (List Int)} (h : SortedR xs) : SortedR (fltR b ys xs) := h.filter _
theorem flt_sub {b : Bool} {ys xs : List (List Int)} {r : List Int} (h : r ∈ fltR b ys xs) : r ∈ xs := (List.mem_filter.1 h).1
theorem flt_len (b : Bool) (ys xs : List (List Int)) : (fltR b ys xs).length ≤ xs.length := List.length_filter_le _ _
theorem gseg_new (w : World) (wd : Nat) : GSeg w.heap.size (w.alloc (.cells #[.int .i64 wd, .int .i64 0, .slice none 0 0] 61)) w.heap.size wd [] :=
  .inl ⟨heap_alloc_new w _, Nat.le_refl _, rfl⟩

set_option maxRecDepth 100000 in
set_option maxHeartbeats 4000000 in
theorem filter_calls {w : World} {p o : Option Addr} {wd : Nat} {xs ys : List (List Int)} (h : Seg w p wd xs) (h' : Seg w o wd ys) (b : Bool) (hwd : wd ≤ 1000) (hx : xs.length ≤ 1000000) (hy : ys.length ≤ 1000000) :
    Calls Try.prog 54 #[.pointer p, .pointer o, .bool b] w (SegRet w wd (fltR b ys xs)) := by
  have cl := segLen_calls h
  have cl' := segLen_calls h'
  have cw := segWidth_calls h
  have cw' := segWidth_calls h'
  have HS := Lib.hid h
  have HS' := Lib.hid h'
  obtain ⟨B, hB⟩ : ∃ B, w.heap.size = B := ⟨_, rfl⟩
  have HB := Lib.hid hB
  have HN := Lib.hid (gseg_new w wd)
  have HNB := Lib.hid ((Below.refl w.heap.size w).alloc (Nat.le_refl _) (.cells #[.int .i64 wd, .int .i64 0, .slice none 0 0] 61))
  rw [hB] at HN HNB
  clear h h' hB
  by_cases h0 : ys.length = 0
  · obtain rfl : ys = [] := List.eq_nil_of_length_eq_zero h0
    clear h0
    cases b
    · have E : Hid (fltR false [] xs = xs) := Lib.hid (by unfold fltR; simp)
      go_enter Try.func54, Try.ntmps54
      go_wp2_with (first | (go_at_call 12; refine cl'.mono ?_; rintro e w' ⟨rfl, rfl⟩))
      go_ret
      exact ⟨p, rfl, by rw [E.out]; exact HS.out, Below.refl _ _⟩
    · have E : Hid (fltR true [] xs = []) := Lib.hid (by unfold fltR; simp)
      go_enter Try.func54, Try.ntmps54
      go_wp2_with (first | (go_at_call 12; refine cl'.mono ?_; rintro e w' ⟨rfl, rfl⟩) | (go_at_call 36; refine cw.mono ?_; rintro e w' ⟨rfl, rfl⟩))
      go_ret
      exact ⟨_, rfl, by rw [E.out, HB.out]; exact HN.out.seg List.Pairwise.nil (fun r hr => by cases hr), by rw [HB.out]; exact HNB.out⟩
  · have t1 : ((ys.length : Int) == 0) = false := beq_eq_false_iff_ne.2 (by omega)
    have h0' : 0 < ys.length := by omega
    go_enter Try.func54, Try.ntmps54
    go_wp2_with fail
    refine cl'.mono ?_
    rintro e w' ⟨rfl, rfl⟩
    go_wp2_with fail
    refine cw'.mono ?_
    rintro e w' ⟨rfl, rfl⟩
    go_wp2_with fail
    refine cw.mono ?_
    rintro e w' ⟨rfl, rfl⟩
    go_wp2_with fail
    refine cw.mono ?_
    rintro e w' ⟨rfl, rfl⟩
    go_wp2_with fail
    simp only [HB.out]
    have cl2 := segLen_calls (HS.out.belowB HB.out HNB.out)
    clear cl cl' cw cw'
    generalize World.alloc w _ = w1 at *
    refine cl2.mono ?_
    rintro e w' ⟨rfl, rfl⟩
    clear cl2
    go_wp2_with fail
    go_loopw [33, 8] (fun s s8 wr => ∃ i n : Nat, i ≤ xs.length ∧ n ≤ ys.length ∧ s = .int .i64 i ∧ s8 = .int .i64 n ∧ Hid (GSeg B wr B wd (fltR b ys (xs.take i))) ∧ Hid (Below B w wr) ∧ Hid (∀ q, q < n → i < xs.length → cmpR (rowAt ys q) (rowAt xs i) < 0)) (fun s _ _ => xs.length - (intOf s).toNat)
    case atStart => exact ⟨0, 0, Nat.zero_le _, Nat.zero_le _, rfl, rfl, HN, HNB, Lib.hid (fun q hq => by omega)⟩
    case round =>
      obtain ⟨i, n, hi, hn, rfl, rfl, HG, HW, HL⟩ := hrel
      have hBr : B ≤ wr.heap.size := by have := HW.out.size; rw [HB.out] at this; exact this
      by_cases hlt : i < xs.length
      · have cs := seek_calls (HS'.out.belowB HB.out HW.out) (HS.out.belowB HB.out HW.out) n i h0' hn hlt hwd hy hx (fun q hq => HL.out q hq hlt)
        go_wp2_with fail
        refine cs.mono ?_
        rintro e w2 ⟨m, rfl, hsk, hm, hb2⟩
        have HSK := Lib.hid hsk
        have hml : m ≤ ys.length := hsk.1
        have HW2 : Hid (Below B w w2) := Lib.hid (HW.out.trans (hb2.mono hBr))
        have HG2 : Hid (GSeg B w2 B wd (fltR b ys (xs.take i))) := Lib.hid (HG.out.below hb2)
        have HL2 : Hid (∀ q, q < m → i + 1 < xs.length → cmpR (rowAt ys q) (rowAt xs (i + 1)) < 0) := Lib.hid (fun q hq h1 => cmpR_trans (HSK.out.2.1 q hq) (sorted_at HS.out.1 (Nat.lt_succ_self i) h1))
        have cm := match_calls (HS'.out.belowB HB.out HW2.out) (HS.out.belowB HB.out HW2.out) m i h0' hlt hwd hy hx (by omega)
        have hde : decide (m < ys.length ∧ rowAt ys m = rowAt xs i) = decide (rowAt xs i ∈ ys) := decide_eq_decide.2 (seek_mem HS'.out.1 hsk)
        rw [hde] at cm
        clear cs hde hsk hb2 HG HW HL
        obtain ⟨c, hc⟩ : ∃ c, decide (rowAt xs i ∈ ys) = c := ⟨_, rfl⟩
        rw [hc] at cm
        have HC := Lib.hid hc
        clear hc
        go_wp2_with fail
        refine cm.mono ?_
        rintro e w3 ⟨rfl, q3, rfl⟩
        clear cm
        have hfl : (fltR b ys (xs.take i)).length ≤ 1000000 := by have := flt_len b ys (xs.take i); simp at this; omega
        by_cases hcb : c = b
        · subst hcb
          have ct := take_calls (B := B) (HG2.out.below (below_drewN (Below.refl _ _) q3)) HS.out HB.out (below_drewN HW2.out q3) i (i + 1) (by omega) (by omega) (by omega) hwd hx hfl
          rw [show ((i + 1 : Nat) : Int) = (i : Int) + 1 by omega] at ct
          have FT : Hid (fltR c ys (xs.take i) ++ cut xs i (i + 1) = fltR c ys (xs.take (i + 1))) := Lib.hid (by rw [flt_take hlt, if_pos HC.out])
          rw [FT.out] at ct
          go_wp2_with fail
          refine ct.mono ?_
          rintro e w4 ⟨rfl, hg4, hb4⟩
          have HG4 := Lib.hid hg4
          have HW4 := Lib.hid hb4
          clear ct hg4 hb4
          go_wp2_with fail
          go_roundw
          case rel => exact ⟨i + 1, m, by omega, hml, by go_num, rfl, HG4, HW4, HL2⟩
          case measure => simp [intOf]; omega
        · have t2 : (c == b) = false := by simpa using hcb
          have t3 : decide (c = b) = false := decide_eq_false hcb
          have FT : Hid (fltR b ys (xs.take (i + 1)) = fltR b ys (xs.take i)) := Lib.hid (by rw [flt_take hlt, HC.out, if_neg hcb])
          go_wp2_with fail
          go_roundw
          case rel => exact ⟨i + 1, m, by omega, hml, by go_num, rfl, Lib.hid (by rw [FT.out]; exact HG2.out.below (below_drewN (Below.refl _ _) q3)), Lib.hid (below_drewN HW2.out q3), HL2⟩
          case measure => simp [intOf]; omega
      · obtain rfl : i = xs.length := by omega
        have HG5 : Hid (GSeg B wr B wd (fltR b ys xs)) := Lib.hid (by have := HG.out; rw [List.take_length] at this; exact this)
        go_wp2_with fail
        go_ret
        exact ⟨_, rfl, HG5.out.seg (flt_sorted HS.out.1) (fun r hr => HS.out.2.1 r (flt_sub hr)), by rw [HB.out]; exact HW.out⟩

theorem and_calls {w : World} {p o : Option Addr} {wd : Nat} {xs ys : List (List Int)} (h : Seg w p wd xs) (h' : Seg w o wd ys) (hwd : wd ≤ 1000) (hx : xs.length ≤ 1000000) (hy : ys.length ≤ 1000000) :
    Calls Try.prog 28 #[.pointer p, .pointer o] w (SegRet w wd (andR xs ys)) := by
  have cc := filter_calls h h' true hwd hx hy
  rw [flt_true] at cc
  go_enter Try.func28, Try.ntmps28
  go_wp2_with fail
  refine cc.mono ?_
  rintro e w1 ⟨r, rfl, h1, h2⟩
  go_wp2_with fail
  go_ret
  exact ⟨r, rfl, h1, h2⟩
theorem minus_calls {w : World} {p o : Option Addr} {wd : Nat} {xs ys : List (List Int)} (h : Seg w p wd xs) (h' : Seg w o wd ys) (hwd : wd ≤ 1000) (hx : xs.length ≤ 1000000) (hy : ys.length ≤ 1000000) :
    Calls Try.prog 40 #[.pointer p, .pointer o] w (SegRet w wd (minusR xs ys)) := by
  have cc := filter_calls h h' false hwd hx hy
  rw [flt_false] at cc
  go_enter Try.func40, Try.ntmps40
  go_wp2_with fail
  refine cc.mono ?_
  rintro e w1 ⟨r, rfl, h1, h2⟩
  go_wp2_with fail
  go_ret
  exact ⟨r, rfl, h1, h2⟩
end Go.Proofs.Ytepkmhcchmladaa
