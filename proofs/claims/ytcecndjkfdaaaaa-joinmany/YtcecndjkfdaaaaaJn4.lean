/- The comparison of keyed rows: byKey's closure. Written by mkjn4.py. -/
import Derived.Test.YtcecndjkfdaaaaaJn3
import Derived.Test.YtcecndjkfdaaaaaShelfK
namespace Go.Proofs.Ytcecndjkfdaaaaa
open Go.RowKit Go.Shelf
set_option linter.unusedVariables false
set_option linter.unusedSimpArgs false

theorem isNaNI_calls (x : Int) (w : World) : Calls Try.prog 87 #[.int .i64 x] w fun e w' => e = .returned (.bool false) ∧ w = w' := by
  go_enter Try.func87, Try.ntmps87
  go_wp2_with fail
  go_ret
  exact ⟨rfl, rfl⟩
theorem cmpI_calls (x y : Int) (w : World) : Calls Try.prog 74 #[.int .i64 x, .int .i64 y] w fun e w' => e = .returned (.int .i64 (cmp3 x y)) ∧ w = w' := by
  by_cases h1 : x < y
  · have H := Lib.hid (show cmp3 x y = -1 by simp [cmp3, h1])
    go_enter Try.func74, Try.ntmps74
    go_wp2_with (first | (go_at_call 87; refine (isNaNI_calls _ _).mono ?_; rintro e w' ⟨rfl, rfl⟩))
    go_ret
    exact ⟨ret_i H.out.symm, rfl⟩
  · by_cases h2 : y < x
    · have H := Lib.hid (show cmp3 x y = 1 by simp [cmp3, h1, h2])
      have t1 : decide (x < y) = false := decide_eq_false h1
      clear h1
      go_enter Try.func74, Try.ntmps74
      go_wp2_with (first | (go_at_call 87; refine (isNaNI_calls _ _).mono ?_; rintro e w' ⟨rfl, rfl⟩))
      go_ret
      exact ⟨ret_i H.out.symm, rfl⟩
    · have H := Lib.hid (show cmp3 x y = 0 by simp [cmp3, h1, h2])
      have t1 : decide (x < y) = false := decide_eq_false h1
      have t2 : decide (y < x) = false := decide_eq_false h2
      clear h1 h2
      go_enter Try.func74, Try.ntmps74
      go_wp2_with (first | (go_at_call 87; refine (isNaNI_calls _ _).mono ?_; rintro e w' ⟨rfl, rfl⟩))
      go_ret
      exact ⟨ret_i H.out.symm, rfl⟩


def cmpK (x y : KE) : Int := if cmpS x.1.2.1 y.1.2.1 = 0 then cmp3 x.2 y.2 else cmpS x.1.2.1 y.1.2.1
set_option maxRecDepth 100000 in
set_option maxHeartbeats 2000000 in
theorem cmp67_calls (x y : KE) (w : World) (hx : Row w x.1.1 x.1.2.1) (hy : Row w y.1.1 y.1.2.1) (hxl : x.1.2.1.length ≤ 1000000) (hyl : y.1.2.1.length ≤ 1000000) :
    Calls Try.prog 73 #[.agg #[encV x.1, .int .i64 x.2], .agg #[encV y.1, .int .i64 y.2]] w (fun e w' => e = .returned (.int .i64 (cmpK x y)) ∧ w' = (w.alloc (.cells #[encV x.1, .int .i64 x.2] 78)).alloc (.cells #[encV y.1, .int .i64 y.2] 78)) := by
  obtain ⟨⟨xa, xs, xc⟩, i⟩ := x
  obtain ⟨⟨ya, ys, yc⟩, j⟩ := y
  obtain ⟨r, hr⟩ : ∃ r, cmpS xs ys = r := ⟨_, rfl⟩
  have HR := Lib.hid hr
  dsimp only at hx hy hxl hyl
  dsimp only [encV]
  have b2 : Below w.heap.size w ((w.alloc (.cells #[.slice xa xs.length xc, .int .i64 i] 78)).alloc (.cells #[.slice ya ys.length yc, .int .i64 j] 78)) := ((Below.refl _ w).alloc (Nat.le_refl _) _).alloc (by simp) _
  have cc := compare_calls xa ya xc yc xs ys _ (hx.below b2) (hy.below b2) hxl hyl
  rw [hr] at cc
  clear hr b2 hx hy
  by_cases h0 : r = 0
  · subst h0
    have H : Hid (cmpK ((xa, xs, xc), i) ((ya, ys, yc), j) = cmp3 i j) := Lib.hid (by simp [cmpK, HR.out])
    have ci := cmpI_calls (i : Int) (j : Int) ((w.alloc (.cells #[.slice xa xs.length xc, .int .i64 i] 78)).alloc (.cells #[.slice ya ys.length yc, .int .i64 j] 78))
    go_enter Try.func73, Try.ntmps73
    go_wp2_with fail
    refine cc.mono ?_
    rintro e w' ⟨rfl, rfl⟩
    go_wp2_with fail
    refine ci.mono ?_
    rintro e w' ⟨rfl, rfl⟩
    go_wp2_with fail
    go_ret
    exact ⟨ret_i H.out.symm, rfl⟩
  · have H : Hid (cmpK ((xa, xs, xc), i) ((ya, ys, yc), j) = r) := Lib.hid (by simp [cmpK, HR.out, h0])
    have t0 : decide (r = 0) = false := decide_eq_false h0
    go_enter Try.func73, Try.ntmps73
    go_wp2_with fail
    refine cc.mono ?_
    rintro e w' ⟨rfl, rfl⟩
    go_wp2_with fail
    go_ret
    exact ⟨ret_i H.out.symm, rfl⟩
end Go.Proofs.Ytcecndjkfdaaaaa
