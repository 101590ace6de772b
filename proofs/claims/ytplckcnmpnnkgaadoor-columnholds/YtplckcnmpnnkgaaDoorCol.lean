/- Contracts of package column: Sign, Holds, Where; and of the statements' own Holds and same. -/
import Derived.Test.YtplckcnmpnnkgaaDoorRows
import Derived.Test.YtplckcnmpnnkgaaDoorColMath
import Derived.Test.YtplckcnmpnnkgaaDoorArDo
import Derived.WalkKit
import Derived.WalkSpells
import Derived.WalkLawsBesides
import Derived.Lib.Hide
import Derived.BigQuiet
import Derived.Deep.QuietTactic
namespace Go.Proofs.YtplckcnmpnnkgaaDoor
open Go.RowKit
set_option linter.unusedVariables false
set_option linter.unusedSimpArgs false

theorem ret_bool {a b : Bool} (h : a = b) : Ending.returned (.bool a) = .returned (.bool b) := by rw [h]
theorem ret_int {k : IntKind} {a b : Int} (h : a = b) : Ending.returned (.int k a) = .returned (.int k b) := by rw [h]

/-- What the walk is told of the table of signs: its six cells. -/
structure Signs (w : World) : Prop where
  c0 : w.cell? ⟨0, 0, none⟩ = some (.string ⟨#[61]⟩)
  c1 : w.cell? ⟨0, 1, none⟩ = some (.string ⟨#[33, 61]⟩)
  c2 : w.cell? ⟨0, 2, none⟩ = some (.string ⟨#[60]⟩)
  c3 : w.cell? ⟨0, 3, none⟩ = some (.string ⟨#[60, 61]⟩)
  c4 : w.cell? ⟨0, 4, none⟩ = some (.string ⟨#[62]⟩)
  c5 : w.cell? ⟨0, 5, none⟩ = some (.string ⟨#[62, 61]⟩)

theorem Signs.pos {w : World} (h : Signs w) : 0 < w.heap.size := World.block_lt_of_cell? w _ h.c0
theorem Signs.below {w w' : World} (h : Signs w) (hb : Below w.heap.size w w') : Signs w' := by
  have hp := h.pos
  have key : ∀ i, w'.cell? ⟨0, i, none⟩ = w.cell? ⟨0, i, none⟩ := fun i => hb.cell (p := ⟨0, i, none⟩) hp
  exact ⟨(key 0).trans h.c0, (key 1).trans h.c1, (key 2).trans h.c2, (key 3).trans h.c3, (key 4).trans h.c4, (key 5).trans h.c5⟩

def signOf (o : Int) : ByteArray := if o = 0 then ⟨#[61]⟩ else if o = 1 then ⟨#[33, 61]⟩ else if o = 2 then ⟨#[60]⟩ else if o = 3 then ⟨#[60, 61]⟩ else if o = 4 then ⟨#[62]⟩ else if o = 5 then ⟨#[62, 61]⟩ else ⟨#[]⟩
theorem ret_str {s t : ByteArray} (h : s = t) : Ending.returned (.string s) = .returned (.string t) := by rw [h]

theorem sign_calls (o : Int) (w : World) (hs : Signs w) :
    Calls Tryd.prog 11 #[.int .i64 o] w fun e w' => e = .returned (.string (signOf o)) ∧ w = w' := by
  obtain ⟨c0, c1, c2, c3, c4, c5⟩ := hs
  by_cases k0 : o = 0
  · subst k0
    go_enter Tryd.func11, Tryd.ntmps11
    go_wp2
    go_ret
    exact ⟨rfl, rfl⟩
  by_cases k1 : o = 1
  · subst k1
    go_enter Tryd.func11, Tryd.ntmps11
    go_wp2
    go_ret
    exact ⟨rfl, rfl⟩
  by_cases k2 : o = 2
  · subst k2
    go_enter Tryd.func11, Tryd.ntmps11
    go_wp2
    go_ret
    exact ⟨rfl, rfl⟩
  by_cases k3 : o = 3
  · subst k3
    go_enter Tryd.func11, Tryd.ntmps11
    go_wp2
    go_ret
    exact ⟨rfl, rfl⟩
  by_cases k4 : o = 4
  · subst k4
    go_enter Tryd.func11, Tryd.ntmps11
    go_wp2
    go_ret
    exact ⟨rfl, rfl⟩
  by_cases k5 : o = 5
  · subst k5
    go_enter Tryd.func11, Tryd.ntmps11
    go_wp2
    go_ret
    exact ⟨rfl, rfl⟩
  have N : signOf o = ⟨#[]⟩ := by simp [signOf, k0, k1, k2, k3, k4, k5]
  have H := Lib.hid N
  clear N c0 c1 c2 c3 c4 c5
  by_cases h0 : o < 0
  · clear k0 k1 k2 k3 k4 k5
    go_enter Tryd.func11, Tryd.ntmps11
    go_wp2
    go_ret
    exact ⟨ret_str H.out.symm, rfl⟩
  · have h5 : 6 ≤ o := by omega
    clear k0 k1 k2 k3 k4 k5
    go_enter Tryd.func11, Tryd.ntmps11
    go_wp2
    go_ret
    exact ⟨ret_str H.out.symm, rfl⟩

/-- column.Holds. -/
theorem holds_calls (o a b : Int) (w : World) :
    Calls Tryd.prog 12 #[.int .i64 o, .int .i64 a, .int .i64 b] w fun e w' => e = .returned (.bool (holdsB o a b)) ∧ w = w' := by
  by_cases k0 : o = 0
  · subst k0
    rw [holdsB0]
    go_enter Tryd.func12, Tryd.ntmps12
    go_wp2
    go_ret
    exact ⟨ret_bool (by first | rfl | grind), rfl⟩
  by_cases k1 : o = 1
  · subst k1
    rw [holdsB1]
    go_enter Tryd.func12, Tryd.ntmps12
    go_wp2
    go_ret
    exact ⟨ret_bool (by first | rfl | grind), rfl⟩
  by_cases k2 : o = 2
  · subst k2
    rw [holdsB2]
    go_enter Tryd.func12, Tryd.ntmps12
    go_wp2
    go_ret
    exact ⟨ret_bool (by first | rfl | grind), rfl⟩
  by_cases k4 : o = 4
  · subst k4
    rw [holdsB4]
    go_enter Tryd.func12, Tryd.ntmps12
    go_wp2
    go_ret
    exact ⟨ret_bool (by first | rfl | grind), rfl⟩
  by_cases k3 : o = 3
  · subst k3
    rw [holdsB3]
    by_cases hab : a = b
    · subst hab
      go_enter Tryd.func12, Tryd.ntmps12
      go_wp2
      go_ret
      exact ⟨ret_bool (by simp), rfl⟩
    · have h0 : (a == b) = false := by simpa using hab
      have H := Lib.hid hab
      clear hab
      go_enter Tryd.func12, Tryd.ntmps12
      go_wp2
      go_ret
      exact ⟨ret_bool (by have := H.out; rw [decide_eq_decide]; omega), rfl⟩
  by_cases k5 : o = 5
  · subst k5
    rw [holdsB5]
    by_cases hab : a = b
    · subst hab
      go_enter Tryd.func12, Tryd.ntmps12
      go_wp2
      go_ret
      exact ⟨ret_bool (by simp), rfl⟩
    · have h0 : (a == b) = false := by simpa using hab
      have H := Lib.hid hab
      clear hab
      go_enter Tryd.func12, Tryd.ntmps12
      go_wp2
      go_ret
      exact ⟨ret_bool (by have := H.out; rw [decide_eq_decide]; omega), rfl⟩
  have N := Lib.hid (show holdsB o a b = false by simp [holdsB, k0, k1, k2, k3, k4, k5])
  have j0 : (o == 0) = false := by simpa using k0
  have j1 : (o == 1) = false := by simpa using k1
  have j2 : (o == 2) = false := by simpa using k2
  have j3 : (o == 3) = false := by simpa using k3
  have j4 : (o == 4) = false := by simpa using k4
  have j5 : (o == 5) = false := by simpa using k5
  clear k0 k1 k2 k3 k4 k5
  go_enter Tryd.func12, Tryd.ntmps12
  go_wp2
  go_ret
  exact ⟨ret_bool N.out.symm, rfl⟩

/-- The statements' own Holds: by a table. -/
def LawRet (o a b : Int) (w : World) (e : Ending) (w' : World) : Prop := e = .returned (.bool (holdsB o a b)) ∧ Below w.heap.size w w'

set_option maxHeartbeats 2000000 in
theorem lawHolds_lt (o a b : Int) (w : World) (h0 : 0 ≤ o) (h5 : o ≤ 5) (h : a < b) : Calls Tryd.prog 14 #[.int .i64 o, .int .i64 a, .int .i64 b] w (LawRet o a b w) := by
  have e1 : decide (a < b) = true := by simpa using h
  have e2 : (a == b) = false := by simp; omega
  have H := Lib.hid h
  have ho : o = 0 ∨ o = 1 ∨ o = 2 ∨ o = 3 ∨ o = 4 ∨ o = 5 := by omega
  clear h h0 h5
  rcases ho with rfl | rfl | rfl | rfl | rfl | rfl
  all_goals
    go_enter Tryd.func14, Tryd.ntmps14
    go_wp2
    go_ret
    exact ⟨ret_bool (by have := H.out; simp [holdsB]; try omega), (Below.refl _ _).alloc (Nat.le_refl _) _⟩
set_option maxHeartbeats 2000000 in
theorem lawHolds_gt (o a b : Int) (w : World) (h0 : 0 ≤ o) (h5 : o ≤ 5) (h : b < a) : Calls Tryd.prog 14 #[.int .i64 o, .int .i64 a, .int .i64 b] w (LawRet o a b w) := by
  have e1 : decide (a < b) = false := by simp; omega
  have e2 : (a == b) = false := by simp; omega
  have H := Lib.hid h
  have ho : o = 0 ∨ o = 1 ∨ o = 2 ∨ o = 3 ∨ o = 4 ∨ o = 5 := by omega
  clear h h0 h5
  rcases ho with rfl | rfl | rfl | rfl | rfl | rfl
  all_goals
    go_enter Tryd.func14, Tryd.ntmps14
    go_wp2
    go_ret
    exact ⟨ret_bool (by have := H.out; simp [holdsB]; try omega), (Below.refl _ _).alloc (Nat.le_refl _) _⟩
set_option maxHeartbeats 2000000 in
theorem lawHolds_eq (o a : Int) (w : World) (h0 : 0 ≤ o) (h5 : o ≤ 5) : Calls Tryd.prog 14 #[.int .i64 o, .int .i64 a, .int .i64 a] w (LawRet o a a w) := by
  have ho : o = 0 ∨ o = 1 ∨ o = 2 ∨ o = 3 ∨ o = 4 ∨ o = 5 := by omega
  clear h0 h5
  rcases ho with rfl | rfl | rfl | rfl | rfl | rfl
  all_goals
    go_enter Tryd.func14, Tryd.ntmps14
    go_wp2
    go_ret
    exact ⟨ret_bool (by simp [holdsB]), (Below.refl _ _).alloc (Nat.le_refl _) _⟩
theorem lawHolds_calls (o a b : Int) (w : World) (h0 : 0 ≤ o) (h5 : o ≤ 5) : Calls Tryd.prog 14 #[.int .i64 o, .int .i64 a, .int .i64 b] w (LawRet o a b w) := by
  rcases Int.lt_trichotomy a b with h | rfl | h
  · exact lawHolds_lt o a b w h0 h5 h
  · exact lawHolds_eq o a w h0 h5
  · exact lawHolds_gt o a b w h0 h5 h
end Go.Proofs.YtplckcnmpnnkgaaDoor
