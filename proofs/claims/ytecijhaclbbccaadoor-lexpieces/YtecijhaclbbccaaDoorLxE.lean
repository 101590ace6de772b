/- Contracts of the lexer: sign. Written by lxt.py. -/
import Derived.Test.YtecijhaclbbccaaDoorLxC
namespace Go.Proofs.YtecijhaclbbccaaDoor
open Go.RowKit
set_option linter.unusedVariables false
set_option linter.unusedSimpArgs false

def sgB (k : Nat) : Bytes := (signs[k]?).getD []
def sgT (k : Nat) : ByteArray := ⟨(sgB k).toArray⟩
/-- What the walk is told of the table of signs. -/
def SignTab (w : World) : Prop := ∀ k : Nat, k < 18 → w.cell? ⟨1, k, none⟩ = some (.string (sgT k))
theorem SignTab.pos {w : World} (h : SignTab w) : 1 < w.heap.size := World.block_lt_of_cell? w _ (h 0 (by omega))
theorem SignTab.below {w w' : World} (h : SignTab w) (hb : Below w.heap.size w w') : SignTab w' := fun k hk => (hb.cell (p := ⟨1, k, none⟩) h.pos).trans (h k hk)
theorem idxS0 (W : World) : (Instr.index 90 (.agg #[.string ⟨#[58, 45]⟩, .string ⟨#[58, 61]⟩, .string ⟨#[33, 61]⟩, .string ⟨#[60, 61]⟩, .string ⟨#[62, 61]⟩, .string ⟨#[40]⟩, .string ⟨#[41]⟩, .string ⟨#[44]⟩, .string ⟨#[46]⟩, .string ⟨#[61]⟩, .string ⟨#[60]⟩, .string ⟨#[62]⟩, .string ⟨#[43]⟩, .string ⟨#[45]⟩, .string ⟨#[42]⟩, .string ⟨#[47]⟩, .string ⟨#[37]⟩, .string ⟨#[64]⟩]) (.int .i64 0)).run Tryd.prog W = .ok (.string ⟨#[58, 45]⟩) W := by kernel_rfl
theorem idxS1 (W : World) : (Instr.index 90 (.agg #[.string ⟨#[58, 45]⟩, .string ⟨#[58, 61]⟩, .string ⟨#[33, 61]⟩, .string ⟨#[60, 61]⟩, .string ⟨#[62, 61]⟩, .string ⟨#[40]⟩, .string ⟨#[41]⟩, .string ⟨#[44]⟩, .string ⟨#[46]⟩, .string ⟨#[61]⟩, .string ⟨#[60]⟩, .string ⟨#[62]⟩, .string ⟨#[43]⟩, .string ⟨#[45]⟩, .string ⟨#[42]⟩, .string ⟨#[47]⟩, .string ⟨#[37]⟩, .string ⟨#[64]⟩]) (.int .i64 1)).run Tryd.prog W = .ok (.string ⟨#[58, 61]⟩) W := by kernel_rfl
theorem idxS2 (W : World) : (Instr.index 90 (.agg #[.string ⟨#[58, 45]⟩, .string ⟨#[58, 61]⟩, .string ⟨#[33, 61]⟩, .string ⟨#[60, 61]⟩, .string ⟨#[62, 61]⟩, .string ⟨#[40]⟩, .string ⟨#[41]⟩, .string ⟨#[44]⟩, .string ⟨#[46]⟩, .string ⟨#[61]⟩, .string ⟨#[60]⟩, .string ⟨#[62]⟩, .string ⟨#[43]⟩, .string ⟨#[45]⟩, .string ⟨#[42]⟩, .string ⟨#[47]⟩, .string ⟨#[37]⟩, .string ⟨#[64]⟩]) (.int .i64 2)).run Tryd.prog W = .ok (.string ⟨#[33, 61]⟩) W := by kernel_rfl
theorem idxS3 (W : World) : (Instr.index 90 (.agg #[.string ⟨#[58, 45]⟩, .string ⟨#[58, 61]⟩, .string ⟨#[33, 61]⟩, .string ⟨#[60, 61]⟩, .string ⟨#[62, 61]⟩, .string ⟨#[40]⟩, .string ⟨#[41]⟩, .string ⟨#[44]⟩, .string ⟨#[46]⟩, .string ⟨#[61]⟩, .string ⟨#[60]⟩, .string ⟨#[62]⟩, .string ⟨#[43]⟩, .string ⟨#[45]⟩, .string ⟨#[42]⟩, .string ⟨#[47]⟩, .string ⟨#[37]⟩, .string ⟨#[64]⟩]) (.int .i64 3)).run Tryd.prog W = .ok (.string ⟨#[60, 61]⟩) W := by kernel_rfl
theorem idxS4 (W : World) : (Instr.index 90 (.agg #[.string ⟨#[58, 45]⟩, .string ⟨#[58, 61]⟩, .string ⟨#[33, 61]⟩, .string ⟨#[60, 61]⟩, .string ⟨#[62, 61]⟩, .string ⟨#[40]⟩, .string ⟨#[41]⟩, .string ⟨#[44]⟩, .string ⟨#[46]⟩, .string ⟨#[61]⟩, .string ⟨#[60]⟩, .string ⟨#[62]⟩, .string ⟨#[43]⟩, .string ⟨#[45]⟩, .string ⟨#[42]⟩, .string ⟨#[47]⟩, .string ⟨#[37]⟩, .string ⟨#[64]⟩]) (.int .i64 4)).run Tryd.prog W = .ok (.string ⟨#[62, 61]⟩) W := by kernel_rfl
theorem idxS5 (W : World) : (Instr.index 90 (.agg #[.string ⟨#[58, 45]⟩, .string ⟨#[58, 61]⟩, .string ⟨#[33, 61]⟩, .string ⟨#[60, 61]⟩, .string ⟨#[62, 61]⟩, .string ⟨#[40]⟩, .string ⟨#[41]⟩, .string ⟨#[44]⟩, .string ⟨#[46]⟩, .string ⟨#[61]⟩, .string ⟨#[60]⟩, .string ⟨#[62]⟩, .string ⟨#[43]⟩, .string ⟨#[45]⟩, .string ⟨#[42]⟩, .string ⟨#[47]⟩, .string ⟨#[37]⟩, .string ⟨#[64]⟩]) (.int .i64 5)).run Tryd.prog W = .ok (.string ⟨#[40]⟩) W := by kernel_rfl
theorem idxS6 (W : World) : (Instr.index 90 (.agg #[.string ⟨#[58, 45]⟩, .string ⟨#[58, 61]⟩, .string ⟨#[33, 61]⟩, .string ⟨#[60, 61]⟩, .string ⟨#[62, 61]⟩, .string ⟨#[40]⟩, .string ⟨#[41]⟩, .string ⟨#[44]⟩, .string ⟨#[46]⟩, .string ⟨#[61]⟩, .string ⟨#[60]⟩, .string ⟨#[62]⟩, .string ⟨#[43]⟩, .string ⟨#[45]⟩, .string ⟨#[42]⟩, .string ⟨#[47]⟩, .string ⟨#[37]⟩, .string ⟨#[64]⟩]) (.int .i64 6)).run Tryd.prog W = .ok (.string ⟨#[41]⟩) W := by kernel_rfl
theorem idxS7 (W : World) : (Instr.index 90 (.agg #[.string ⟨#[58, 45]⟩, .string ⟨#[58, 61]⟩, .string ⟨#[33, 61]⟩, .string ⟨#[60, 61]⟩, .string ⟨#[62, 61]⟩, .string ⟨#[40]⟩, .string ⟨#[41]⟩, .string ⟨#[44]⟩, .string ⟨#[46]⟩, .string ⟨#[61]⟩, .string ⟨#[60]⟩, .string ⟨#[62]⟩, .string ⟨#[43]⟩, .string ⟨#[45]⟩, .string ⟨#[42]⟩, .string ⟨#[47]⟩, .string ⟨#[37]⟩, .string ⟨#[64]⟩]) (.int .i64 7)).run Tryd.prog W = .ok (.string ⟨#[44]⟩) W := by kernel_rfl
theorem idxS8 (W : World) : (Instr.index 90 (.agg #[.string ⟨#[58, 45]⟩, .string ⟨#[58, 61]⟩, .string ⟨#[33, 61]⟩, .string ⟨#[60, 61]⟩, .string ⟨#[62, 61]⟩, .string ⟨#[40]⟩, .string ⟨#[41]⟩, .string ⟨#[44]⟩, .string ⟨#[46]⟩, .string ⟨#[61]⟩, .string ⟨#[60]⟩, .string ⟨#[62]⟩, .string ⟨#[43]⟩, .string ⟨#[45]⟩, .string ⟨#[42]⟩, .string ⟨#[47]⟩, .string ⟨#[37]⟩, .string ⟨#[64]⟩]) (.int .i64 8)).run Tryd.prog W = .ok (.string ⟨#[46]⟩) W := by kernel_rfl
theorem idxS9 (W : World) : (Instr.index 90 (.agg #[.string ⟨#[58, 45]⟩, .string ⟨#[58, 61]⟩, .string ⟨#[33, 61]⟩, .string ⟨#[60, 61]⟩, .string ⟨#[62, 61]⟩, .string ⟨#[40]⟩, .string ⟨#[41]⟩, .string ⟨#[44]⟩, .string ⟨#[46]⟩, .string ⟨#[61]⟩, .string ⟨#[60]⟩, .string ⟨#[62]⟩, .string ⟨#[43]⟩, .string ⟨#[45]⟩, .string ⟨#[42]⟩, .string ⟨#[47]⟩, .string ⟨#[37]⟩, .string ⟨#[64]⟩]) (.int .i64 9)).run Tryd.prog W = .ok (.string ⟨#[61]⟩) W := by kernel_rfl
theorem idxS10 (W : World) : (Instr.index 90 (.agg #[.string ⟨#[58, 45]⟩, .string ⟨#[58, 61]⟩, .string ⟨#[33, 61]⟩, .string ⟨#[60, 61]⟩, .string ⟨#[62, 61]⟩, .string ⟨#[40]⟩, .string ⟨#[41]⟩, .string ⟨#[44]⟩, .string ⟨#[46]⟩, .string ⟨#[61]⟩, .string ⟨#[60]⟩, .string ⟨#[62]⟩, .string ⟨#[43]⟩, .string ⟨#[45]⟩, .string ⟨#[42]⟩, .string ⟨#[47]⟩, .string ⟨#[37]⟩, .string ⟨#[64]⟩]) (.int .i64 10)).run Tryd.prog W = .ok (.string ⟨#[60]⟩) W := by kernel_rfl
theorem idxS11 (W : World) : (Instr.index 90 (.agg #[.string ⟨#[58, 45]⟩, .string ⟨#[58, 61]⟩, .string ⟨#[33, 61]⟩, .string ⟨#[60, 61]⟩, .string ⟨#[62, 61]⟩, .string ⟨#[40]⟩, .string ⟨#[41]⟩, .string ⟨#[44]⟩, .string ⟨#[46]⟩, .string ⟨#[61]⟩, .string ⟨#[60]⟩, .string ⟨#[62]⟩, .string ⟨#[43]⟩, .string ⟨#[45]⟩, .string ⟨#[42]⟩, .string ⟨#[47]⟩, .string ⟨#[37]⟩, .string ⟨#[64]⟩]) (.int .i64 11)).run Tryd.prog W = .ok (.string ⟨#[62]⟩) W := by kernel_rfl
theorem idxS12 (W : World) : (Instr.index 90 (.agg #[.string ⟨#[58, 45]⟩, .string ⟨#[58, 61]⟩, .string ⟨#[33, 61]⟩, .string ⟨#[60, 61]⟩, .string ⟨#[62, 61]⟩, .string ⟨#[40]⟩, .string ⟨#[41]⟩, .string ⟨#[44]⟩, .string ⟨#[46]⟩, .string ⟨#[61]⟩, .string ⟨#[60]⟩, .string ⟨#[62]⟩, .string ⟨#[43]⟩, .string ⟨#[45]⟩, .string ⟨#[42]⟩, .string ⟨#[47]⟩, .string ⟨#[37]⟩, .string ⟨#[64]⟩]) (.int .i64 12)).run Tryd.prog W = .ok (.string ⟨#[43]⟩) W := by kernel_rfl
theorem idxS13 (W : World) : (Instr.index 90 (.agg #[.string ⟨#[58, 45]⟩, .string ⟨#[58, 61]⟩, .string ⟨#[33, 61]⟩, .string ⟨#[60, 61]⟩, .string ⟨#[62, 61]⟩, .string ⟨#[40]⟩, .string ⟨#[41]⟩, .string ⟨#[44]⟩, .string ⟨#[46]⟩, .string ⟨#[61]⟩, .string ⟨#[60]⟩, .string ⟨#[62]⟩, .string ⟨#[43]⟩, .string ⟨#[45]⟩, .string ⟨#[42]⟩, .string ⟨#[47]⟩, .string ⟨#[37]⟩, .string ⟨#[64]⟩]) (.int .i64 13)).run Tryd.prog W = .ok (.string ⟨#[45]⟩) W := by kernel_rfl
theorem idxS14 (W : World) : (Instr.index 90 (.agg #[.string ⟨#[58, 45]⟩, .string ⟨#[58, 61]⟩, .string ⟨#[33, 61]⟩, .string ⟨#[60, 61]⟩, .string ⟨#[62, 61]⟩, .string ⟨#[40]⟩, .string ⟨#[41]⟩, .string ⟨#[44]⟩, .string ⟨#[46]⟩, .string ⟨#[61]⟩, .string ⟨#[60]⟩, .string ⟨#[62]⟩, .string ⟨#[43]⟩, .string ⟨#[45]⟩, .string ⟨#[42]⟩, .string ⟨#[47]⟩, .string ⟨#[37]⟩, .string ⟨#[64]⟩]) (.int .i64 14)).run Tryd.prog W = .ok (.string ⟨#[42]⟩) W := by kernel_rfl
theorem idxS15 (W : World) : (Instr.index 90 (.agg #[.string ⟨#[58, 45]⟩, .string ⟨#[58, 61]⟩, .string ⟨#[33, 61]⟩, .string ⟨#[60, 61]⟩, .string ⟨#[62, 61]⟩, .string ⟨#[40]⟩, .string ⟨#[41]⟩, .string ⟨#[44]⟩, .string ⟨#[46]⟩, .string ⟨#[61]⟩, .string ⟨#[60]⟩, .string ⟨#[62]⟩, .string ⟨#[43]⟩, .string ⟨#[45]⟩, .string ⟨#[42]⟩, .string ⟨#[47]⟩, .string ⟨#[37]⟩, .string ⟨#[64]⟩]) (.int .i64 15)).run Tryd.prog W = .ok (.string ⟨#[47]⟩) W := by kernel_rfl
theorem idxS16 (W : World) : (Instr.index 90 (.agg #[.string ⟨#[58, 45]⟩, .string ⟨#[58, 61]⟩, .string ⟨#[33, 61]⟩, .string ⟨#[60, 61]⟩, .string ⟨#[62, 61]⟩, .string ⟨#[40]⟩, .string ⟨#[41]⟩, .string ⟨#[44]⟩, .string ⟨#[46]⟩, .string ⟨#[61]⟩, .string ⟨#[60]⟩, .string ⟨#[62]⟩, .string ⟨#[43]⟩, .string ⟨#[45]⟩, .string ⟨#[42]⟩, .string ⟨#[47]⟩, .string ⟨#[37]⟩, .string ⟨#[64]⟩]) (.int .i64 16)).run Tryd.prog W = .ok (.string ⟨#[37]⟩) W := by kernel_rfl
theorem idxS17 (W : World) : (Instr.index 90 (.agg #[.string ⟨#[58, 45]⟩, .string ⟨#[58, 61]⟩, .string ⟨#[33, 61]⟩, .string ⟨#[60, 61]⟩, .string ⟨#[62, 61]⟩, .string ⟨#[40]⟩, .string ⟨#[41]⟩, .string ⟨#[44]⟩, .string ⟨#[46]⟩, .string ⟨#[61]⟩, .string ⟨#[60]⟩, .string ⟨#[62]⟩, .string ⟨#[43]⟩, .string ⟨#[45]⟩, .string ⟨#[42]⟩, .string ⟨#[47]⟩, .string ⟨#[37]⟩, .string ⟨#[64]⟩]) (.int .i64 17)).run Tryd.prog W = .ok (.string ⟨#[64]⟩) W := by kernel_rfl
theorem idxS (k : Nat) (hk : k < 18) (W : World) : (Instr.index 90 (.agg #[.string ⟨#[58, 45]⟩, .string ⟨#[58, 61]⟩, .string ⟨#[33, 61]⟩, .string ⟨#[60, 61]⟩, .string ⟨#[62, 61]⟩, .string ⟨#[40]⟩, .string ⟨#[41]⟩, .string ⟨#[44]⟩, .string ⟨#[46]⟩, .string ⟨#[61]⟩, .string ⟨#[60]⟩, .string ⟨#[62]⟩, .string ⟨#[43]⟩, .string ⟨#[45]⟩, .string ⟨#[42]⟩, .string ⟨#[47]⟩, .string ⟨#[37]⟩, .string ⟨#[64]⟩]) (.int .i64 (k : Int))).run Tryd.prog W = .ok (.string (sgT k)) W := by
  have h : k = 0 ∨ k = 1 ∨ k = 2 ∨ k = 3 ∨ k = 4 ∨ k = 5 ∨ k = 6 ∨ k = 7 ∨ k = 8 ∨ k = 9 ∨ k = 10 ∨ k = 11 ∨ k = 12 ∨ k = 13 ∨ k = 14 ∨ k = 15 ∨ k = 16 ∨ k = 17 := by omega
  rcases h with rfl | rfl | rfl | rfl | rfl | rfl | rfl | rfl | rfl | rfl | rfl | rfl | rfl | rfl | rfl | rfl | rfl | rfl
  · exact idxS0 W
  · exact idxS1 W
  · exact idxS2 W
  · exact idxS3 W
  · exact idxS4 W
  · exact idxS5 W
  · exact idxS6 W
  · exact idxS7 W
  · exact idxS8 W
  · exact idxS9 W
  · exact idxS10 W
  · exact idxS11 W
  · exact idxS12 W
  · exact idxS13 W
  · exact idxS14 W
  · exact idxS15 W
  · exact idxS16 W
  · exact idxS17 W
theorem sgB_len (k : Nat) (hk : k < 18) : (sgB k).length ≤ 2 ∧ 1 ≤ (sgB k).length := by
  have h : k = 0 ∨ k = 1 ∨ k = 2 ∨ k = 3 ∨ k = 4 ∨ k = 5 ∨ k = 6 ∨ k = 7 ∨ k = 8 ∨ k = 9 ∨ k = 10 ∨ k = 11 ∨ k = 12 ∨ k = 13 ∨ k = 14 ∨ k = 15 ∨ k = 16 ∨ k = 17 := by omega
  rcases h with rfl | rfl | rfl | rfl | rfl | rfl | rfl | rfl | rfl | rfl | rfl | rfl | rfl | rfl | rfl | rfl | rfl | rfl <;> decide
theorem signs_drop {k : Nat} (h : k < 18) : signs.drop k = sgB k :: signs.drop (k + 1) := by
  unfold sgB
  rw [List.drop_eq_getElem_cons (show k < signs.length from h), List.getElem?_eq_getElem (show k < signs.length from h)]; rfl
theorem hasP (s : ByteArray) (p k : Nat) (hp : p ≤ s.size) : Lib.hasPrefix (s.extract p s.size).data.toList (sgT k).data.toList = (sgB k).isPrefixOf ((bs s).drop p) := by
  rw [extract_eq]
  unfold Lib.hasPrefix sgT
  simp only
  rw [List.take_of_length_le (by rw [List.length_drop, bs_len]; exact Nat.le_refl _)]
set_option maxRecDepth 100000 in
set_option maxHeartbeats 1000000 in
theorem sign_calls (s : ByteArray) (p : Nat) (w : World) (hp : p ≤ s.size) (hs : s.size ≤ 1000000) (ht : SignTab w) :
    Calls Tryd.prog 35 #[.string s, .int .i64 p] w (NxRet w (signGo ((bs s).drop p) p signs)) := by
  obtain ⟨G, hG⟩ : ∃ G, w.heap.size = G := ⟨_, rfl⟩
  have HG := Lib.hid hG
  have HX : Hid (zbox (w.alloc (.cells #[.int .i64 0, .string ⟨#[]⟩, .int .u64 0, .int .i64 0] 31)) G) := Lib.hid (by rw [← hG]; exact zbox_new w)
  have BX : Hid (Below G w (w.alloc (.cells #[.int .i64 0, .string ⟨#[]⟩, .int .u64 0, .int .i64 0] 31))) := Lib.hid ((Below.refl G w).alloc (by omega) _)
  have ht2 : SignTab (w.alloc (.cells #[.int .i64 0, .string ⟨#[]⟩, .int .u64 0, .int .i64 0] 31)) := ht.below ((Below.refl _ _).alloc (Nat.le_refl _) _)
  have c0 : (w.alloc (.cells #[.int .i64 0, .string ⟨#[]⟩, .int .u64 0, .int .i64 0] 31)).cell? ⟨1, 0, none⟩ = some (.string ⟨#[58, 45]⟩) := ht2 0 (by omega)
  have c1 : (w.alloc (.cells #[.int .i64 0, .string ⟨#[]⟩, .int .u64 0, .int .i64 0] 31)).cell? ⟨1, 1, none⟩ = some (.string ⟨#[58, 61]⟩) := ht2 1 (by omega)
  have c2 : (w.alloc (.cells #[.int .i64 0, .string ⟨#[]⟩, .int .u64 0, .int .i64 0] 31)).cell? ⟨1, 2, none⟩ = some (.string ⟨#[33, 61]⟩) := ht2 2 (by omega)
  have c3 : (w.alloc (.cells #[.int .i64 0, .string ⟨#[]⟩, .int .u64 0, .int .i64 0] 31)).cell? ⟨1, 3, none⟩ = some (.string ⟨#[60, 61]⟩) := ht2 3 (by omega)
  have c4 : (w.alloc (.cells #[.int .i64 0, .string ⟨#[]⟩, .int .u64 0, .int .i64 0] 31)).cell? ⟨1, 4, none⟩ = some (.string ⟨#[62, 61]⟩) := ht2 4 (by omega)
  have c5 : (w.alloc (.cells #[.int .i64 0, .string ⟨#[]⟩, .int .u64 0, .int .i64 0] 31)).cell? ⟨1, 5, none⟩ = some (.string ⟨#[40]⟩) := ht2 5 (by omega)
  have c6 : (w.alloc (.cells #[.int .i64 0, .string ⟨#[]⟩, .int .u64 0, .int .i64 0] 31)).cell? ⟨1, 6, none⟩ = some (.string ⟨#[41]⟩) := ht2 6 (by omega)
  have c7 : (w.alloc (.cells #[.int .i64 0, .string ⟨#[]⟩, .int .u64 0, .int .i64 0] 31)).cell? ⟨1, 7, none⟩ = some (.string ⟨#[44]⟩) := ht2 7 (by omega)
  have c8 : (w.alloc (.cells #[.int .i64 0, .string ⟨#[]⟩, .int .u64 0, .int .i64 0] 31)).cell? ⟨1, 8, none⟩ = some (.string ⟨#[46]⟩) := ht2 8 (by omega)
  have c9 : (w.alloc (.cells #[.int .i64 0, .string ⟨#[]⟩, .int .u64 0, .int .i64 0] 31)).cell? ⟨1, 9, none⟩ = some (.string ⟨#[61]⟩) := ht2 9 (by omega)
  have c10 : (w.alloc (.cells #[.int .i64 0, .string ⟨#[]⟩, .int .u64 0, .int .i64 0] 31)).cell? ⟨1, 10, none⟩ = some (.string ⟨#[60]⟩) := ht2 10 (by omega)
  have c11 : (w.alloc (.cells #[.int .i64 0, .string ⟨#[]⟩, .int .u64 0, .int .i64 0] 31)).cell? ⟨1, 11, none⟩ = some (.string ⟨#[62]⟩) := ht2 11 (by omega)
  have c12 : (w.alloc (.cells #[.int .i64 0, .string ⟨#[]⟩, .int .u64 0, .int .i64 0] 31)).cell? ⟨1, 12, none⟩ = some (.string ⟨#[43]⟩) := ht2 12 (by omega)
  have c13 : (w.alloc (.cells #[.int .i64 0, .string ⟨#[]⟩, .int .u64 0, .int .i64 0] 31)).cell? ⟨1, 13, none⟩ = some (.string ⟨#[45]⟩) := ht2 13 (by omega)
  have c14 : (w.alloc (.cells #[.int .i64 0, .string ⟨#[]⟩, .int .u64 0, .int .i64 0] 31)).cell? ⟨1, 14, none⟩ = some (.string ⟨#[42]⟩) := ht2 14 (by omega)
  have c15 : (w.alloc (.cells #[.int .i64 0, .string ⟨#[]⟩, .int .u64 0, .int .i64 0] 31)).cell? ⟨1, 15, none⟩ = some (.string ⟨#[47]⟩) := ht2 15 (by omega)
  have c16 : (w.alloc (.cells #[.int .i64 0, .string ⟨#[]⟩, .int .u64 0, .int .i64 0] 31)).cell? ⟨1, 16, none⟩ = some (.string ⟨#[37]⟩) := ht2 16 (by omega)
  have c17 : (w.alloc (.cells #[.int .i64 0, .string ⟨#[]⟩, .int .u64 0, .int .i64 0] 31)).cell? ⟨1, 17, none⟩ = some (.string ⟨#[64]⟩) := ht2 17 (by omega)
  have hp1 := ht.pos
  clear ht ht2
  go_enter Tryd.func35, Tryd.ntmps35
  go_wp2_with fail
  clear c0 c1 c2 c3 c4 c5 c6 c7 c8 c9 c10 c11 c12 c13 c14 c15 c16 c17
  generalize World.alloc w _ = W at *
  go_loop [10] (fun i => ∃ k : Nat, k ≤ 18 ∧ i = .int .i64 k ∧ Hid (signGo ((bs s).drop p) p (signs.drop k) = signGo ((bs s).drop p) p signs)) (fun i => 18 - (intOf i).toNat)
  case atStart => exact ⟨0, by omega, rfl, Lib.hid rfl⟩
  case round =>
    obtain ⟨k, hk, rfl, HE⟩ := hrel
    by_cases hlt : k < 18
    · have hx := idxS k hlt
      have ST : Hid (signGo ((bs s).drop p) p signs = if (sgB k).isPrefixOf ((bs s).drop p) = true then .ok ⟨5, sgT k, 0, p⟩ (p + (sgB k).length) else signGo ((bs s).drop p) p (signs.drop (k + 1))) := Lib.hid (by rw [← HE.out, signs_drop hlt]; rfl)
      have ch := Tryd.strings_HasPrefix (s.extract p s.size) (sgT k) W
      rw [hasP s p k hp] at ch
      have SZ : (sgT k).size = (sgB k).length := by unfold sgT; exact List.size_toArray
      have hl2 := sgB_len k hlt
      have HSZ := Lib.hid SZ
      clear SZ
      cases hb : (sgB k).isPrefixOf ((bs s).drop p) with
      | true =>
        rw [hb] at ch ST
        rw [if_pos rfl, ← HSZ.out] at ST
        have z1 : (sgT k).size ≤ 2 := by rw [HSZ.out]; omega
        clear hb hl2
        generalize sgT k = tx at *
        obtain ⟨E, hE⟩ : ∃ E, p + tx.size = E := ⟨_, rfl⟩
        rw [hE] at ST
        have hE' : (p : Int) + (tx.size : Int) = (E : Int) := by omega
        clear hE
        go_wp2_with fail
        refine ch.mono ?_
        rintro e w' ⟨rfl, rfl⟩
        clear ch hx
        obtain ⟨c0, c1, c2, c3, cf⟩ := cells4 HX.out
        have R1 := Lib.hid (box_ok HG.out HX.out BX.out ⟨5, tx, 0, (p : Int)⟩ E)
        have E1 := Lib.hid (heap_set4 (y0 := .int .i64 5) (y1 := .string tx) (y2 := .int .u64 0) (y3 := .int .i64 (p : Int)) HX.out)
        go_wp2_with fail
        obtain ⟨d0, d1, d2, d3, _⟩ := cells4 E1.out
        refine bodyPost_ret (v := .tuple #[.agg #[.int .i64 5, .string tx, .int .u64 0, .int .i64 (p : Int)], .int .i64 E, .nilIface]) ?_ rfl (by rw [ST.out]; exact R1.out)
        simp [results, Tryd.results35, go_sem, d0, d1, d2, d3]
      | false =>
        rw [hb] at ch ST
        rw [if_neg Bool.false_ne_true] at ST
        clear hb hl2
        go_wp2_with fail
        refine ch.mono ?_
        rintro e w' ⟨rfl, rfl⟩
        clear ch hx
        go_wp2_with fail
        go_round
        case rel => exact ⟨k + 1, by omega, by go_num, Lib.hid ST.out.symm⟩
        case measure => simp [intOf]; omega
    · have DF : Hid (signGo ((bs s).drop p) p signs = .no 1 p) := Lib.hid (by rw [← HE.out, show k = 18 by omega]; rfl)
      go_wp2_with fail
      refine (fail_is _ _ _ _).mono ?_
      rintro e w1 ⟨hb1, b1, txt1, rfl, hle1, hf1⟩
      obtain ⟨HZ1, HR1⟩ := box_no HG.out HX.out BX.out hb1 hle1 hf1
      have R1 := Lib.hid HR1
      have E1 := Lib.hid (heap_set4 (y0 := .int .i64 0) (y1 := .string ⟨#[]⟩) (y2 := .int .u64 0) (y3 := .int .i64 0) HZ1)
      obtain ⟨c0, c1, c2, c3, cf⟩ := cells4 HZ1
      clear hb1 hle1 hf1 HZ1 HR1
      go_wp2_with fail
      obtain ⟨d0, d1, d2, d3, _⟩ := cells4 E1.out
      refine bodyPost_ret (v := .tuple #[.agg #[.int .i64 0, .string ⟨#[]⟩, .int .u64 0, .int .i64 0], .int .i64 0, .iface 70 (.pointer (some ⟨b1, 0, none⟩))]) ?_ rfl (by rw [DF.out]; exact R1.out)
      simp [results, Tryd.results35, go_sem, d0, d1, d2, d3]
end Go.Proofs.YtecijhaclbbccaaDoor
