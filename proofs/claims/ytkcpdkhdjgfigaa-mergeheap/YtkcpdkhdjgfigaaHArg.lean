/- What the walk of MergeHeap is told of a slice of Acts that came in. -/
import Derived.Test.YtkcpdkhdjgfigaaHt9
import Derived.ProofKit
import Derived.OpenShut
import Derived.Deep.SlicePairs
namespace Go.Proofs.Ytkcpdkhdjgfigaa
open Go.ChangeShapes Go.WideShapes Go.ChangeAt Go.RowKit Go.Deep
set_option linter.unusedVariables false
set_option linter.unusedSimpArgs false

theorem pairs_of {P : Nat → Bool × Int → Prop} : ∀ n, (∀ i, i < n → ∃ y, P i y) → ∃ L : List (Bool × Int), L.length = n ∧ ∀ i, i < n → P i (atE L i)
  | 0, _ => ⟨[], rfl, fun i hi => by omega⟩
  | n + 1, h => by
    obtain ⟨L, hl, hL⟩ := pairs_of n (fun i hi => h i (by omega))
    obtain ⟨y, hy⟩ := h n (by omega)
    refine ⟨L ++ [y], by simp [hl], fun i hi => ?_⟩
    by_cases e : i = n
    · subst e; rw [show atE (L ++ [y]) i = y by rw [← hl]; exact atE_last L y]; exact hy
    · rw [atE_append (by omega)]; exact hL i (by omega)
section
variable {H : Type} {enc : TypeId × Value → H} {W : World} {base : Nat} {spare : Nat → Bool} {held : Bool}
theorem acts_of {fuel : Nat} {a : Option Addr} {len cap : Nat} {x : DataW H × List MemPlace}
    (h : DataW.trod enc Try.prog W base spare held fuel 44 [.slice a len cap] = some x) : ∃ acts : List (Bool × Int), len = acts.length ∧ ActsAt W a acts ∧ acts.length ≤ maxLen := by
  rcases open_slice_pairs Try.underlying44 Try.underlying52 (by kernel_rfl) rfl rfl (by kernel_rfl) (by kernel_rfl) h with ⟨hcs, _⟩ | ⟨y, l, c, m, n, V0, V1, D0, D1, P0, P1, hcs, _, hl, hm, hmm, _, hall⟩
  · simp at hcs
    obtain ⟨rfl, rfl, rfl⟩ := hcs
    exact ⟨[], rfl, .inl rfl, Nat.zero_le _⟩
  · simp at hcs
    obtain ⟨rfl, rfl, rfl⟩ := hcs
    have hml : len ≤ m := by rw [hmm]; split <;> omega
    obtain ⟨acts, hA, hP⟩ := pairs_of (P := fun i z => W.cell? (y.add (i * 2)) = some (.bool z.1) ∧ W.cell? (y.add (i * 2 + 1)) = some (.int .i64 z.2)) len (fun i hil => by
      obtain ⟨h1, h2, h3, h4⟩ := hall i (by omega)
      obtain ⟨b, e0, _⟩ := DataW.trod_bool Try.underlying4 h3
      obtain ⟨k, e1, _⟩ := DataW.trod_int Try.underlying3 h4
      simp only [List.cons.injEq, and_true] at e0 e1
      exact ⟨(b, k), by rw [h1, e0], by rw [h2, e1]⟩)
    refine ⟨acts, hA.symm, ?_, by omega⟩
    by_cases h0 : acts = []
    · exact .inl h0
    · have hpos : 0 < len := by rw [← hA]; exact List.length_pos_iff.2 h0
      obtain ⟨b, off, spot⟩ := y
      have hc0 := (hP 0 hpos).1
      obtain rfl : spot = none := by simpa [Addr.add] using World.cell?_spot hc0
      have hb : b < W.heap.size := by
        rcases Nat.lt_or_ge b W.heap.size with h | h
        · exact h
        · simp [World.cell?, Addr.add, h] at hc0
      have ad : ∀ j, (⟨b, off, none⟩ : Addr).add j = ⟨b, off + j, none⟩ := fun j => by simp only [Addr.add]; split <;> simp_all
      refine .inr ⟨b, off, rfl, hb, fun i hi => ?_⟩
      have := hP i (by omega)
      rw [ad, ad] at this
      exact this
end
theorem heap_walk_is (a : Option Addr) (la ca : Nat) (acts : List (Bool × Int)) (w : World) (e1 : la = acts.length) (hA : ActsAt w a acts) (hm : acts.length ≤ maxLen) : Calls Try.prog 8 #[.slice a la ca] w (TrueRet w) := by
  subst e1
  by_cases h : 200 < acts.length
  · exact heap_long a ca acts w h hm
  · exact heap_full a ca acts w hA (by omega)
end Go.Proofs.Ytkcpdkhdjgfigaa
