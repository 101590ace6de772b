/- best: New, Better, Len; the law's better. -/
import Derived.Test.YtcecndjkfdaaaaaRv
namespace Go.Proofs.Ytcecndjkfdaaaaa
open Go.RowKit
set_option linter.unusedVariables false
set_option linter.unusedSimpArgs false

/-- Is a cost better than another? -/
def betterB (great : Bool) (x y : Int) : Bool := if great then decide (y < x) else decide (x < y)
theorem better_law (great : Bool) (x y : Int) (w : World) : Calls Try.prog 39 #[.bool great, .int .i64 x, .int .i64 y] w (fun e w' => e = .returned (.bool (betterB great x y)) ∧ w = w') := by
  unfold betterB
  cases great
  · by_cases h : x < y
    · have t : decide (x < y) = true := decide_eq_true h
      go_enter Try.func39, Try.ntmps39
      go_wp2_with fail
      go_ret
      exact ⟨by simp [h], rfl⟩
    · have t : decide (x < y) = false := decide_eq_false h
      go_enter Try.func39, Try.ntmps39
      go_wp2_with fail
      go_ret
      exact ⟨by simp [h], rfl⟩
  · by_cases h : y < x
    · have t : decide (y < x) = true := decide_eq_true h
      go_enter Try.func39, Try.ntmps39
      go_wp2_with fail
      go_ret
      exact ⟨by simp [h], rfl⟩
    · have t : decide (y < x) = false := decide_eq_false h
      go_enter Try.func39, Try.ntmps39
      go_wp2_with fail
      go_ret
      exact ⟨by simp [h], rfl⟩
theorem better_calls {w : World} {g : Nat} {great : Bool} (h : w.cell? ⟨g, 1, none⟩ = some (.bool great)) (x y : Int) : Calls Try.prog 38 #[.pointer (some ⟨g, 0, none⟩), .int .i64 x, .int .i64 y] w (fun e w' => e = .returned (.bool (betterB great x y)) ∧ w = w') := by
  unfold betterB
  cases great
  · go_enter Try.func38, Try.ntmps38
    go_wp2_with fail
    go_ret
    exact ⟨by simp, rfl⟩
  · go_enter Try.func38, Try.ntmps38
    go_wp2_with fail
    go_ret
    exact ⟨by simp, rfl⟩
theorem bestLen_calls {w : World} {g n c : Nat} {a : Option Addr} (h : w.cell? ⟨g, 2, none⟩ = some (.slice a n c)) : Calls Try.prog 31 #[.pointer (some ⟨g, 0, none⟩)] w (fun e w' => e = .returned (.int .i64 n) ∧ w = w') := by
  go_enter Try.func31, Try.ntmps31
  go_wp2_with fail
  go_ret
  exact ⟨rfl, rfl⟩
theorem new_calls (width : Int) (great : Bool) (w : World) : Calls Try.prog 26 #[.int .i64 width, .bool great] w (fun e w' => e = .returned (.pointer (some ⟨w.heap.size, 0, none⟩)) ∧ w' = w.alloc (.cells #[.int .i64 width, .bool great, .slice none 0 0, .map none] 86)) := by
  go_enter Try.func26, Try.ntmps26
  go_wp2_with fail
  go_ret
  exact ⟨rfl, rfl⟩
end Go.Proofs.Ytcecndjkfdaaaaa
