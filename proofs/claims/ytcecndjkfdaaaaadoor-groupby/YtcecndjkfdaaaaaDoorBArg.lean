/- What the walks of best are told of a slice of rows that came in: with the numbers' range. -/
import Derived.Test.YtcecndjkfdaaaaaDoorRArg
import Derived.Test.YtcecndjkfdaaaaaDoorGr1
namespace Go.Proofs.YtcecndjkfdaaaaaDoor
open Go.ChangeShapes Go.WideShapes Go.ChangeAt Go.RowKit Go.Deep
set_option linter.unusedVariables false
set_option linter.unusedSimpArgs false

section
variable {H : Type} {enc : TypeId × Value → H} {W : World} {base : Nat} {spare : Nat → Bool} {held : Bool}
theorem rows_ofB {fuel : Nat} {a : Option Addr} {len cap : Nat} {x : DataW H × List MemPlace} (hsp : ∀ b, spare b = true) (hbd : ∀ n, (Lit.int .i64 n).wf = true → -9223372036854775808 ≤ n ∧ n ≤ 9223372036854775807)
    (h : DataW.trod enc Tryd.prog W base spare held fuel 32 [.slice a len cap] = some x) : ∃ A : List RV, len = A.length ∧ NestArgs W a A ∧ ∀ x ∈ A, InR x.2.1 := by
  rcases open_slice1 Tryd.underlying32 (by kernel_rfl) h with ⟨hcs, _⟩ | ⟨y, l, c, m, n, V, D, Pl, hcs, _, hl, hm, hmm, _, hi⟩
  · simp at hcs
    obtain ⟨rfl, rfl, rfl⟩ := hcs
    exact ⟨[], rfl, ⟨⟨.inl rfl, fun x hx => by cases hx⟩, Nat.zero_le _, fun x hx => by cases hx⟩, fun x hx => by cases hx⟩
  · simp at hcs
    obtain ⟨rfl, rfl, rfl⟩ := hcs
    have hml : len ≤ m := by rw [hmm]; split <;> omega
    obtain ⟨A, hA, hP⟩ := list_of (P := fun i z => W.cell? (y.add i) = some (encV z) ∧ Row W z.1 z.2.1 ∧ z.2.1.length ≤ z.2.2 ∧ z.2.1.length ≤ maxLen ∧ InR z.2.1) len (fun i hil => by
      obtain ⟨h1, h2⟩ := hi i (by omega)
      have hV : ∃ a' l' c', V i = .slice a' l' c' := by
        rcases open_ints Tryd.underlying22 Tryd.underlying2 (by kernel_rfl) h2 with ⟨hcs, _⟩ | ⟨y', l', c', zs', hcs, _⟩
        · simp at hcs; exact ⟨_, _, _, hcs⟩
        · simp at hcs; exact ⟨_, _, _, hcs⟩
      obtain ⟨a', l', c', e⟩ := hV
      rw [e] at h1 h2
      obtain ⟨zs, hz⟩ := isRow_of Tryd.underlying22 Tryd.underlying2 (by kernel_rfl) hsp h2
      obtain ⟨h3, h4⟩ := isRow_cap hz
      obtain ⟨ys, e2, hR, hbn, hml'⟩ := isRow_row hz hbd
      subst e2
      exact ⟨(a', ys, c'), h1, hR, h3, hml', hbn⟩)
    refine ⟨A, hA.symm, ⟨⟨?_, fun z hz => ?_⟩, by rw [hA]; omega, fun z hz => ?_⟩, fun z hz => ?_⟩
    · by_cases h0 : A = []
      · exact .inl h0
      · have hpos : 0 < len := by rw [← hA]; exact List.length_pos_iff.2 h0
        obtain ⟨b, off, spot⟩ := y
        have hc0 := (hP 0 hpos).1
        obtain rfl : spot = none := by simpa [Addr.add] using World.cell?_spot hc0
        have hb : b < W.heap.size := by
          rcases Nat.lt_or_ge b W.heap.size with h | h
          · exact h
          · simp [World.cell?, Addr.add, h] at hc0
        refine .inr ⟨b, off, rfl, hb, fun i hi => ?_⟩
        have := (hP i (by omega)).1
        rwa [show (⟨b, off, none⟩ : Addr).add i = ⟨b, off + i, none⟩ by simp only [Addr.add]; split <;> simp_all] at this
    · obtain ⟨i, hi, e⟩ := List.getElem_of_mem hz
      have := hP i (by omega)
      rw [atV_eq hi, e] at this
      exact ⟨this.2.1, this.2.2.1⟩
    · obtain ⟨i, hi, e⟩ := List.getElem_of_mem hz
      have := hP i (by omega)
      rw [atV_eq hi, e] at this
      exact this.2.2.2.1
    · obtain ⟨i, hi, e⟩ := List.getElem_of_mem hz
      have := hP i (by omega)
      rw [atV_eq hi, e] at this
      exact this.2.2.2.2
end
end Go.Proofs.YtcecndjkfdaaaaaDoor
