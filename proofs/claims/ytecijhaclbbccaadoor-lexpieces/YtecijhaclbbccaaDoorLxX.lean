/- Gaps, signs and digits of the statement LexPieces. -/
import Derived.Test.YtecijhaclbbccaaDoorLxO
import Derived.Test.YtecijhaclbbccaaDoorLxW
namespace Go.Proofs.YtecijhaclbbccaaDoor
open Go.RowKit
set_option linter.unusedVariables false
set_option linter.unusedSimpArgs false

/-- A number taken as one without a sign. -/
def uN (x : Int) : Nat := (IntKind.u64.wrap x).toNat
theorem uN_lt (x : Int) : uN x < 18446744073709551616 := by unfold uN; rw [IntKind.wrap_u64]; omega
theorem uN_eq (x : Int) : IntKind.u64.wrap x = (uN x : Int) := by unfold uN; rw [IntKind.wrap_u64]; omega
theorem urem (x : Int) (k : Nat) (hk : 0 < k) (hk2 : k ≤ 1000) : wrap64 ((IntKind.u64.wrap x).tmod (k : Int)) = ((uN x % k : Nat) : Int) := by
  rw [uN_eq, Int.tmod_eq_emod_of_nonneg (by omega)]
  have h : ((uN x : Int) % (k : Int)) = ((uN x % k : Nat) : Int) := by omega
  rw [h]
  have := Nat.mod_lt (uN x) hk
  unfold wrap64; omega
set_option maxRecDepth 100000 in
theorem gap_cells (W : World) {j : Nat} (hj : j < 6) : (W.alloc (.cells #[.string ⟨#[32]⟩, .string ⟨#[10]⟩, .string ⟨#[9, 32]⟩, .string ⟨#[32, 35, 32, 109, 111, 114, 101, 10]⟩, .string ⟨#[13, 10]⟩, .string ⟨#[32, 35, 10, 35, 120, 10, 32]⟩] 9)).cell? ⟨W.heap.size, j, none⟩ = some (.string ⟨(gapT.getD j []).toArray⟩) := by
  rw [World.cell?_alloc_at _ _ _ _ rfl]
  have h : j = 0 ∨ j = 1 ∨ j = 2 ∨ j = 3 ∨ j = 4 ∨ j = 5 := by omega
  rcases h with rfl | rfl | rfl | rfl | rfl | rfl <;> rfl
set_option maxRecDepth 100000 in
set_option maxHeartbeats 1000000 in
theorem gap_calls (n : Int) (w : World) : Calls Tryd.prog 9 #[.int .i64 n] w (StrRet w ⟨(gapT.getD (uN n % 6) []).toArray⟩) := by
  have hr := urem n 6 (by omega) (by omega)
  have hj : uN n % 6 < 6 := Nat.mod_lt _ (by omega)
  generalize uN n % 6 = j at *
  have hr2 : wrap64 ((IntKind.u64.wrap n).tmod 6) = (j : Int) := hr
  have HC := gap_cells w hj
  have B1 := Lib.hid ((Below.refl w.heap.size w).alloc (Nat.le_refl _) (.cells #[.string ⟨#[32]⟩, .string ⟨#[10]⟩, .string ⟨#[9, 32]⟩, .string ⟨#[32, 35, 32, 109, 111, 114, 101, 10]⟩, .string ⟨#[13, 10]⟩, .string ⟨#[32, 35, 10, 35, 120, 10, 32]⟩] 9))
  clear hr
  generalize (⟨(gapT.getD j []).toArray⟩ : ByteArray) = t at *
  go_enter Tryd.func9, Tryd.ntmps9
  go_wp2_with fail
  go_ret
  exact ⟨rfl, B1.out⟩
end Go.Proofs.YtecijhaclbbccaaDoor
