/- What the walks are told of a slice of texts that came in. -/
import Derived.Test.YtplckcnmpnnkgaaIn5
namespace Go.Proofs.Ytplckcnmpnnkgaa
open Go.RowKit
set_option linter.unusedVariables false

def IsStrs (w : World) (a : Option Addr) (len cap : Nat) (zs : List ByteArray) : Prop :=
  (a = none ∧ len = 0 ∧ cap = 0 ∧ zs = []) ∨
  ∃ x, a = some x ∧ len ≤ cap ∧ cap ≤ maxLen ∧ zs.length = cap ∧ (∀ i, i < zs.length → w.cell? (x.add i) = some (.string (zs.getD i ByteArray.empty))) ∧ ∀ s ∈ zs, s.size ≤ maxLen

theorem isStrs_row {w : World} {a : Option Addr} {len cap : Nat} {zs : List ByteArray} (h : IsStrs w a len cap zs) :
    ∃ ts : List ByteArray, len = ts.length ∧ SRow w a ts ∧ ts.length ≤ maxLen ∧ ∀ s ∈ ts, s.size ≤ maxLen := by
  rcases h with ⟨rfl, rfl, rfl, rfl⟩ | ⟨x, rfl, hl, hm, hz, hcell, hwz⟩
  · exact ⟨[], rfl, .inl rfl, Nat.zero_le _, fun z hz => by cases hz⟩
  · have hlt : (zs.take len).length = len := by simp; omega
    refine ⟨zs.take len, hlt.symm, ?_, by rw [hlt]; omega, fun z hz => hwz z (List.mem_of_mem_take hz)⟩
    by_cases h0 : len = 0
    · subst h0; exact .inl rfl
    · obtain ⟨b, off, spot⟩ := x
      have hc0 := hcell 0 (by omega)
      obtain rfl : spot = none := by simpa [Addr.add] using World.cell?_spot hc0
      have hb : b < w.heap.size := by
        rcases Nat.lt_or_ge b w.heap.size with h | h
        · exact h
        · simp [World.cell?, Addr.add, h] at hc0
      refine .inr ⟨b, off, rfl, hb, fun i hi => ?_⟩
      have := hcell i (by omega)
      rw [show (⟨b, off, none⟩ : Addr).add i = ⟨b, off + i, none⟩ by simp only [Addr.add]; split <;> simp_all] at this
      rw [hlt] at hi
      rw [this, List.getD_eq_getElem?_getD, List.getD_eq_getElem?_getD, List.getElem?_take_of_lt hi]

theorem ids_walk_is (a : Option Addr) (len cap : Nat) (zs : List ByteArray) (o : ByteArray) (id : Int) (w : World) (h : IsStrs w a len cap zs) (ho : o.size ≤ maxLen) :
    Calls Try.prog 3 #[.slice a len cap, .string o, .int .i64 id] w (TrueRet w) := by
  obtain ⟨ts, rfl, hR, hl, hs⟩ := isStrs_row h
  exact ids_walk a cap ts o id w hR hl hs ho
end Go.Proofs.Ytplckcnmpnnkgaa
