/- What the walks are told of two sides that came in. -/
import Derived.Test.YtcecndjkfdaaaaaJn16
import Derived.Test.YtcecndjkfdaaaaaRArg
import Derived.ProofKit
import Derived.OpenShut
import Derived.Deep.Slices
namespace Go.Proofs.Ytcecndjkfdaaaaa
open Go.ChangeShapes Go.WideShapes Go.ChangeAt Go.RowKit Go.Deep
set_option linter.unusedVariables false
set_option linter.unusedSimpArgs false

theorem list6 {α : Type} {l : List α} (h : l.length = 6) : ∃ c0 c1 c2 c3 c4 c5, l = [c0, c1, c2, c3, c4, c5] := by
  match l, h with
  | [c0, c1, c2, c3, c4, c5], _ => exact ⟨_, _, _, _, _, _, rfl⟩
set_option maxRecDepth 100000 in
theorem sides_of {H : Type} {enc : TypeId × Value → H} {W : World} {b0 : Nat} {v : Value} {dt : DataW H} {ps : List MemPlace} (hbd : ∀ n, (Lit.int .i64 n).wf = true → -9223372036854775808 ≤ n ∧ n ≤ 9223372036854775807)
    (hv : Value.okWide Try.prog W .any b0 25 v) (h : DataW.Trod enc Try.prog W 0 (fun _ => true) true 25 v dt ps) :
    ∃ wi wj a b c d A D KA KB ca cb cc cd, v = sidesV wi wj a b c d A D KA KB ca cb cc cd ∧ SideArgs W a b c d A D KA KB := by
  obtain ⟨cs, rfl, hsz⟩ := okWide_struct Try.underlying25 hv
  obtain ⟨l⟩ := cs
  have k25 : Try.prog.cellsOf 25 = 6 := by kernel_rfl
  have k3 : Try.prog.cellsOf 3 = 1 := by kernel_rfl
  have k22 : Try.prog.cellsOf 22 = 1 := by kernel_rfl
  have k23 : Try.prog.cellsOf 23 = 1 := by kernel_rfl
  obtain ⟨c0, c1, c2, c3, c4, c5, rfl⟩ := list6 (hsz.trans k25)
  obtain ⟨fuel, hf⟩ := h
  obtain ⟨xs, n, _, _, _, hlen, hg⟩ := DataW.trod_struct Try.underlying25 hf
  have g0 := hg 0 _ rfl
  have g1 := hg 1 _ rfl
  have g2 := hg 2 _ rfl
  have g3 := hg 3 _ rfl
  have g4 := hg 4 _ rfl
  have g5 := hg 5 _ rfl
  obtain ⟨y0, y1, y2, y3, y4, y5, rfl⟩ := list6 hlen
  simp [Value.cells, k3, k22, k23] at g0 g1 g2 g3 g4 g5
  obtain ⟨wi, e0, _⟩ := DataW.trod_int Try.underlying3 g0
  obtain ⟨wj, e1, _⟩ := DataW.trod_int Try.underlying3 g1
  have s2 : ∃ a l c, c2 = .slice a l c := by
    rcases open_slice1 Try.underlying22 (by kernel_rfl) g2 with ⟨hcs, _⟩ | ⟨y, l, c, m, n, V, D, Pl, hcs, _⟩
    · simp at hcs; exact ⟨_, _, _, hcs⟩
    · simp at hcs; exact ⟨_, _, _, hcs⟩
  have s3 : ∃ a l c, c3 = .slice a l c := by
    rcases open_slice1 Try.underlying22 (by kernel_rfl) g3 with ⟨hcs, _⟩ | ⟨y, l, c, m, n, V, D, Pl, hcs, _⟩
    · simp at hcs; exact ⟨_, _, _, hcs⟩
    · simp at hcs; exact ⟨_, _, _, hcs⟩
  have s4 : ∃ a l c, c4 = .slice a l c := by
    rcases open_ints Try.underlying23 Try.underlying3 (by kernel_rfl) g4 with ⟨hcs, _⟩ | ⟨y', l', c', zs', hcs, _⟩
    · simp at hcs; exact ⟨_, _, _, hcs⟩
    · simp at hcs; exact ⟨_, _, _, hcs⟩
  have s5 : ∃ a l c, c5 = .slice a l c := by
    rcases open_ints Try.underlying23 Try.underlying3 (by kernel_rfl) g5 with ⟨hcs, _⟩ | ⟨y', l', c', zs', hcs, _⟩
    · simp at hcs; exact ⟨_, _, _, hcs⟩
    · simp at hcs; exact ⟨_, _, _, hcs⟩
  obtain ⟨a, la, ca, rfl⟩ := s2
  obtain ⟨b, lb, cb, rfl⟩ := s3
  obtain ⟨c, lc, cc, rfl⟩ := s4
  obtain ⟨d, ld, cd, rfl⟩ := s5
  obtain ⟨A, rfl, hA, _⟩ := rows_of (fun _ => rfl) hbd g2
  obtain ⟨D, rfl, hD, _⟩ := rows_of (fun _ => rfl) hbd g3
  obtain ⟨z4, i4⟩ := isRow_of Try.underlying23 Try.underlying3 (by kernel_rfl) (fun _ => rfl) g4
  obtain ⟨z5, i5⟩ := isRow_of Try.underlying23 Try.underlying3 (by kernel_rfl) (fun _ => rfl) g5
  obtain ⟨KA, rfl, hKA, _⟩ := isRow_row i4 hbd
  obtain ⟨KB, rfl, hKB, _⟩ := isRow_row i5 hbd
  simp only [List.cons.injEq, and_true] at e0 e1
  subst e0 e1
  exact ⟨wi, wj, a, b, c, d, A, D, KA, KB, ca, cb, cc, cd, rfl, hA, hD, hKA, hKB⟩
end Go.Proofs.Ytcecndjkfdaaaaa
