/- Keyed rows as they are read; sameKey. -/
import Derived.Test.YtcecndjkfdaaaaaJn6
namespace Go.Proofs.Ytcecndjkfdaaaaa
open Go.RowKit Go.Shelf
set_option linter.unusedVariables false
set_option linter.unusedSimpArgs false

def atK (L : List KE) (i : Nat) : KE := L[i]?.getD ((none, [], 0), 0)
theorem atK_eq {L : List KE} {i : Nat} (h : i < L.length) : atK L i = L[i] := by simp [atK, h]
theorem atK_mem {L : List KE} {i : Nat} (h : i < L.length) : atK L i ∈ L := by rw [atK_eq h]; exact List.getElem_mem h
/-- The slice at address a reads as the keyed rows L. -/
def KRow (w : World) (a : Option Addr) (L : List KE) : Prop :=
  (L = [] ∨ ∃ b off, a = some ⟨b, off, none⟩ ∧ b < w.heap.size ∧ ∀ i, i < L.length → w.cell? ⟨b, off + i * 2, none⟩ = some (encV (atK L i).1) ∧ w.cell? ⟨b, off + i * 2 + 1, none⟩ = some (.int .i64 (atK L i).2)) ∧ ∀ x ∈ L, Row w x.1.1 x.1.2.1 ∧ x.1.2.1.length ≤ x.1.2.2
theorem KRow.below {w w' : World} {a : Option Addr} {L : List KE} (h : KRow w a L) (hb : Below w.heap.size w w') : KRow w' a L := by
  refine ⟨?_, fun x hx => ⟨(h.2 x hx).1.below hb, (h.2 x hx).2⟩⟩
  rcases h.1 with rfl | ⟨b, off, rfl, hlt, hc⟩
  · exact .inl rfl
  · exact .inr ⟨b, off, rfl, Nat.lt_of_lt_of_le hlt hb.size, fun i hi => ⟨(hb.cell (p := ⟨b, off + i * 2, none⟩) hlt).trans (hc i hi).1, (hb.cell (p := ⟨b, off + i * 2 + 1, none⟩) hlt).trans (hc i hi).2⟩⟩
theorem krow_of_owns {w : World} {B b5 : Nat} {a : Option Addr} {cap : Nat} {L : List KE} (h : w.ownsRow B 78 2 (.slice a L.length cap) L.length (flatK L)) (hr : ∀ x ∈ L, KRead w (.slice a L.length cap) b5 x) : KRow w a L := by
  refine ⟨?_, fun x hx => (hr x hx).1⟩
  rcases h.2 with ⟨e, h0⟩ | ⟨g, cap', cur, e, hb, hh, _⟩
  · exact .inl (List.eq_nil_of_length_eq_zero h0)
  · cases e
    refine .inr ⟨g, 0, rfl, (Array.getElem?_eq_some_iff.1 hh).1, fun i hi => ?_⟩
    obtain ⟨e1, h1, h2⟩ := flatK_get L (i * 2) (by omega)
    obtain ⟨e2, h3, h4⟩ := flatK_get L (i * 2 + 1) (by omega)
    rw [show i * 2 / 2 = i by omega, List.getElem?_eq_getElem hi] at h1
    rw [show (i * 2 + 1) / 2 = i by omega, List.getElem?_eq_getElem hi] at h3
    cases h1; cases h3
    rw [show i * 2 % 2 = 0 by omega] at h2
    rw [show (i * 2 + 1) % 2 = 1 by omega] at h4
    rw [Nat.zero_add, atK_eq hi]
    exact ⟨(h.cellAt (i * 2) (by omega)).trans h2, (h.cellAt (i * 2 + 1) (by omega)).trans h4⟩
end Go.Proofs.Ytcecndjkfdaaaaa
