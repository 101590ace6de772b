/- What the walk of LexPieces is told of a slice of pieces (three numbers each) that came in. -/
import Derived.Test.YtecijhaclbbccaaDoorProg
import Derived.IntWalk
import Derived.Deep.Slices
import Derived.Deep.Strs
namespace Go.Proofs.YtecijhaclbbccaaDoor
open Go.ChangeShapes Go.WideShapes Go.Deep
set_option linter.unusedVariables false
set_option linter.unusedSimpArgs false

abbrev PV := Int × Int × Int
def atP (T : List PV) (i : Nat) : PV := T[i]?.getD (0, 0, 0)
structure PArgs (w : World) (a : Option Addr) (T : List PV) : Prop where
  cells : T = [] ∨ ∃ b off, a = some ⟨b, off, none⟩ ∧ b < w.heap.size ∧ ∀ i, i < T.length → w.cell? ⟨b, off + i * 3, none⟩ = some (.int .i64 (atP T i).1) ∧ w.cell? ⟨b, off + i * 3 + 1, none⟩ = some (.int .i64 (atP T i).2.1) ∧ w.cell? ⟨b, off + i * 3 + 2, none⟩ = some (.int .i64 (atP T i).2.2)
  len : T.length ≤ maxLen
section
variable {H : Type} {enc : TypeId × Value → H} {W : World} {base : Nat} {spare : Nat → Bool} {held : Bool}
theorem list_ofP {P : Nat → PV → Prop} (n : Nat) (h : ∀ i, i < n → ∃ x, P i x) : ∃ T : List PV, T.length = n ∧ ∀ i, i < n → P i (atP T i) := by
  induction n with
  | zero => exact ⟨[], rfl, fun i hi => by omega⟩
  | succ n ih =>
    obtain ⟨T, hT, hP⟩ := ih (fun i hi => h i (by omega))
    obtain ⟨x, hx⟩ := h n (by omega)
    refine ⟨T ++ [x], by simp [hT], fun i hi => ?_⟩
    rcases Nat.lt_succ_iff_lt_or_eq.1 hi with h1 | h1
    · have : atP (T ++ [x]) i = atP T i := by simp only [atP]; rw [List.getElem?_append_left (by omega)]
      rw [this]; exact hP i h1
    · subst h1
      have : atP (T ++ [x]) i = x := by simp only [atP]; rw [List.getElem?_append_right (by omega), hT]; simp
      rw [this]; exact hx
theorem ce27 : Tryd.prog.cellsOf 27 = 3 := by kernel_rfl
theorem ce3 : Tryd.prog.cellsOf 3 = 1 := by kernel_rfl
set_option maxRecDepth 100000 in
theorem pieces_of {fuel : Nat} {cs : List Value} {x : DataW H × List MemPlace} (h : DataW.trod enc Tryd.prog W base spare held fuel 22 cs = some x) : ∃ (a : Option Addr) (T : List PV) (cap : Nat), cs = [.slice a T.length cap] ∧ PArgs W a T := by
  rcases open_slice Tryd.underlying22 h with ⟨hcs, _⟩ | ⟨y, len, cap, m, n, D, Pl, rfl, _, hl, hm, hmm, _, hall⟩
  · exact ⟨none, [], 0, hcs, .inl rfl, Nat.zero_le _⟩
  · have hml : len ≤ m := by rw [hmm]; split <;> omega
    have ce := ce27
    obtain ⟨T, hT, hP⟩ := list_ofP (P := fun i z => W.cell? (y.add (i * 3)) = some (.int .i64 z.1) ∧ W.cell? (y.add (i * 3 + 1)) = some (.int .i64 z.2.1) ∧ W.cell? (y.add (i * 3 + 2)) = some (.int .i64 z.2.2)) len (fun i hi => by
      obtain ⟨cs', h1, h2⟩ := hall i (by omega)
      rw [ce] at h1
      obtain ⟨_, hlen, hcell⟩ := World.cells?_some h1
      obtain ⟨y0, y1, y2, k, _, _, g0, g1, g2⟩ := trod_struct3 Tryd.underlying27 h2
      match cs', hlen with
      | [v0, v1, v2], _ =>
        have c1 := ce3
        simp [c1] at g0 g1 g2
        obtain ⟨k0, e0, _⟩ := DataW.trod_int Tryd.underlying3 g0
        obtain ⟨k1, e1, _⟩ := DataW.trod_int Tryd.underlying3 g1
        obtain ⟨k2, e2, _⟩ := DataW.trod_int Tryd.underlying3 g2
        simp only [List.cons.injEq, and_true] at e0 e1 e2
        have f0 := hcell 0 (by omega)
        have f1 := hcell 1 (by omega)
        have f2 := hcell 2 (by omega)
        rw [add_add] at f0 f1 f2
        exact ⟨(k0, k1, k2), by rw [← e0]; simpa using f0, by rw [← e1]; simpa using f1, by rw [← e2]; simpa using f2⟩)
    refine ⟨some y, T, cap, by rw [hT], ⟨?_, by rw [hT]; omega⟩⟩
    by_cases h0 : T = []
    · exact .inl h0
    · have hpos : 0 < len := by rw [← hT]; exact List.length_pos_iff.2 h0
      obtain ⟨b, off, spot⟩ := y
      have hc0 := (hP 0 hpos).1
      obtain rfl : spot = none := by simpa [Addr.add] using World.cell?_spot hc0
      have hb : b < W.heap.size := by
        rcases Nat.lt_or_ge b W.heap.size with h | h
        · exact h
        · simp [World.cell?, Addr.add, h] at hc0
      have ad : ∀ j, (⟨b, off, none⟩ : Addr).add j = ⟨b, off + j, none⟩ := fun j => by simp only [Addr.add]; split <;> simp_all
      refine .inr ⟨b, off, rfl, hb, fun i hi => ?_⟩
      have := hP i (by omega)
      rw [ad, ad, ad] at this
      exact ⟨this.1, by rw [Nat.add_assoc]; exact this.2.1, by rw [Nat.add_assoc]; exact this.2.2⟩
end
end Go.Proofs.YtecijhaclbbccaaDoor
