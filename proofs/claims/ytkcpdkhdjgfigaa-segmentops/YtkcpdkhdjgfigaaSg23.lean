/- The operations with the nil relation. -/
import Derived.Test.YtkcpdkhdjgfigaaSg22
namespace Go.Proofs.Ytkcpdkhdjgfigaa
open Go.RowKit
set_option linter.unusedVariables false
set_option linter.unusedSimpArgs false

theorem seg_none (w : World) : Seg w none 0 [] := ⟨List.Pairwise.nil, (fun r hr => by cases hr), .inl ⟨rfl, rfl, rfl⟩⟩
theorem len_none (w : World) : Calls Try.prog 25 #[.pointer none] w fun e w' => e = .returned (.int .i64 0) ∧ w = w' := segLen_calls (seg_none w)
theorem len_noneq (w : World) : Calls Try.prog 25 #[.pointer none] w fun e w' => e = .returned (.int .i64 0) ∧ w' = w := (len_none w).mono fun _ _ h => ⟨h.1, h.2.symm⟩

set_option maxRecDepth 100000 in
theorem none_or (o : Option Addr) (w : World) : Calls Try.prog 21 #[.pointer none, .pointer o] w (Quiet (.pointer o) w) := by
  go_enter Try.func21, Try.ntmps21
  go_wp2_with fail
  go_ret
  exact ⟨rfl, 0, rfl⟩
set_option maxRecDepth 100000 in
theorem or_none {w : World} {p : Option Addr} {wd : Nat} {xs : List (List Int)} (h : Seg w p wd xs) (hx : xs.length ≤ 1000000) : Calls Try.prog 21 #[.pointer p, .pointer none] w (Quiet (.pointer p) w) := by
  obtain ⟨_, _, ⟨rfl, hw0, _⟩ | ⟨g, a, n, c, rfl, hg, hr⟩⟩ := h
  · exact none_or none w
  · have c1 := (segCells hg).2.1
    clear hg hr
    by_cases h0 : xs.length = 0
    · rw [h0] at c1
      go_enter Try.func21, Try.ntmps21
      go_wp2_with fail
      refine (len_none _).mono ?_
      rintro e w' ⟨rfl, rfl⟩
      go_wp2_with fail
      go_quiet ((exact Calls.quiet_of_same (len_noneq _)))
      go_wp2_with fail
      go_ret
      exact ⟨rfl, _, rfl⟩
    · have t1 : ((xs.length : Int) == 0) = false := beq_eq_false_iff_ne.2 (by omega)
      go_enter Try.func21, Try.ntmps21
      go_wp2_with fail
      go_quiet ((exact Calls.quiet_of_same (len_noneq _)))
      go_wp2_with fail
      go_ret
      exact ⟨rfl, _, rfl⟩
set_option maxRecDepth 100000 in
theorem minus_none (p : Option Addr) (w : World) : Calls Try.prog 23 #[.pointer p, .pointer none] w (Quiet (.pointer p) w) := by
  have cc : Calls Try.prog 56 #[.pointer p, .pointer none, .bool false] w (Quiet (.pointer p) w) := by
    go_enter Try.func56, Try.ntmps56
    go_wp2_with fail
    refine (len_none _).mono ?_
    rintro e w' ⟨rfl, rfl⟩
    go_wp2_with fail
    go_ret
    exact ⟨rfl, 0, rfl⟩
  go_enter Try.func23, Try.ntmps23
  go_wp2_with fail
  refine cc.mono ?_
  rintro e w1 ⟨rfl, q, rfl⟩
  go_wp2_with fail
  go_ret
  exact ⟨rfl, _, rfl⟩
set_option maxRecDepth 100000 in
theorem and_none {w : World} {p : Option Addr} {wd : Nat} {xs : List (List Int)} (h : Seg w p wd xs) : Calls Try.prog 22 #[.pointer p, .pointer none] w (SegRet w wd []) := by
  have cw := segWidth_calls h
  have HN := Lib.hid (gseg_new w wd)
  have HNB := Lib.hid ((Below.refl w.heap.size w).alloc (Nat.le_refl _) (.cells #[.int .i64 wd, .int .i64 0, .slice none 0 0] 75))
  clear h
  have cc : Calls Try.prog 56 #[.pointer p, .pointer none, .bool true] w (SegRet w wd []) := by
    go_enter Try.func56, Try.ntmps56
    go_wp2_with fail
    refine (len_none _).mono ?_
    rintro e w' ⟨rfl, rfl⟩
    go_wp2_with fail
    refine cw.mono ?_
    rintro e w' ⟨rfl, rfl⟩
    go_wp2_with fail
    go_ret
    exact ⟨_, rfl, HN.out.seg List.Pairwise.nil (fun r hr => by cases hr), HNB.out⟩
  go_enter Try.func22, Try.ntmps22
  go_wp2_with fail
  refine cc.mono ?_
  rintro e w1 ⟨r, rfl, h1, h2⟩
  go_wp2_with fail
  go_ret
  exact ⟨r, rfl, h1, h2⟩
/-- No rows, of whatever width. -/
def NoRows (w : World) (e : Ending) (w' : World) : Prop := ∃ wd, SegRet w wd [] e w'
set_option maxRecDepth 100000 in
theorem none_minus {w : World} {o : Option Addr} {wd : Nat} {ys : List (List Int)} (h : Seg w o wd ys) (hwd : wd ≤ 1000) (hy : ys.length ≤ 1000000) : Calls Try.prog 23 #[.pointer none, .pointer o] w (NoRows w) := by
  have cc : Calls Try.prog 56 #[.pointer none, .pointer o, .bool false] w (NoRows w) := by
    rcases Nat.eq_zero_or_pos wd with rfl | hpos
    · exact (filter_calls (seg_none w) h false hwd (by simp) hy).mono fun e w' hh => ⟨0, hh⟩
    · have cl := segLen_calls h
      have cw := segWidth_calls h
      have cw0 := segWidth_calls (seg_none w)
      clear h
      by_cases h0 : ys.length = 0
      · rw [h0] at cl
        go_enter Try.func56, Try.ntmps56
        go_wp2_with fail
        refine cl.mono ?_
        rintro e w' ⟨rfl, rfl⟩
        go_wp2_with fail
        go_ret
        exact ⟨0, _, rfl, seg_none _, Below.refl _ _⟩
      · have t1 : ((ys.length : Int) == 0) = false := beq_eq_false_iff_ne.2 (by omega)
        have t2 : ((wd : Int) == 0) = false := beq_eq_false_iff_ne.2 (by omega)
        go_enter Try.func56, Try.ntmps56
        go_wp2_with fail
        refine cl.mono ?_
        rintro e w' ⟨rfl, rfl⟩
        go_wp2_with fail
        refine cw.mono ?_
        rintro e w' ⟨rfl, rfl⟩
        go_wp2_with fail
        refine cw0.mono ?_
        rintro e w' ⟨rfl, rfl⟩
        go_wp2_with fail
        go_ret
        exact ⟨0, _, rfl, seg_none _, Below.refl _ _⟩
  go_enter Try.func23, Try.ntmps23
  go_wp2_with fail
  refine cc.mono ?_
  rintro e w1 ⟨wd', r, rfl, h1, h2⟩
  go_wp2_with fail
  go_ret
  exact ⟨wd', r, rfl, h1, h2⟩
end Go.Proofs.Ytkcpdkhdjgfigaa
