import Derived.Test.YtepkmhcchmladaaTArg
import Derived.Test.YtepkmhcchmladaaBArg
/- What the walks are told of a slice of slices of rows that came in: with the numbers' range. -/
namespace Go.Proofs.Ytepkmhcchmladaa
open Go.ChangeShapes Go.WideShapes Go.ChangeAt Go.RowKit Go.Deep
set_option linter.unusedVariables false
set_option linter.unusedSimpArgs false

/-- A slice of slices of rows, their numbers in range. -/
structure TArgsR (w : World) (a : Option Addr) (T : List TV) : Prop where
  args : TArgs w a T
  rng : ∀ x ∈ T, ∀ y ∈ x.2.1, InRange y.2.1
section
variable {H : Type} {enc : TypeId × Value → H} {W : World} {base : Nat} {spare : Nat → Bool} {held : Bool}
theorem lists_ofR {fuel : Nat} {a : Option Addr} {len cap : Nat} {x : DataW H × List MemPlace} (hsp : ∀ b, spare b = true) (hbd : ∀ n, (Lit.int .i64 n).wf = true → -9223372036854775808 ≤ n ∧ n ≤ 9223372036854775807)
    (h : DataW.trod enc Try.prog W base spare held fuel 22 [.slice a len cap] = some x) : ∃ T : List TV, len = T.length ∧ TArgsR W a T := by
  rcases open_slice1 Try.underlying22 (by kernel_rfl) h with ⟨hcs, _⟩ | ⟨y, l, c, m, n, V, D, Pl, hcs, _, hl, hm, hmm, _, hi⟩
  · simp at hcs
    obtain ⟨rfl, rfl, rfl⟩ := hcs
    exact ⟨[], rfl, ⟨⟨.inl rfl, fun x hx => (by cases hx), Nat.zero_le _⟩, fun x hx => (by cases hx)⟩⟩
  · simp at hcs
    obtain ⟨rfl, rfl, rfl⟩ := hcs
    have hml : len ≤ m := by rw [hmm]; split <;> omega
    obtain ⟨T, hT, hP⟩ := list_ofT (P := fun i z => W.cell? (y.add i) = some (.slice z.1 z.2.1.length z.2.2) ∧ NestArgs W z.1 z.2.1 ∧ ∀ y ∈ z.2.1, InRange y.2.1) len (fun i hil => by
      obtain ⟨h1, h2⟩ := hi i (by omega)
      have hV : ∃ a' l' c', V i = .slice a' l' c' := by
        rcases open_slice1 Try.underlying28 (by kernel_rfl) h2 with ⟨hcs, _⟩ | ⟨y', l', c', m', n', V', D', Pl', hcs, _⟩
        · simp at hcs; exact ⟨_, _, _, hcs⟩
        · simp at hcs; exact ⟨_, _, _, hcs⟩
      obtain ⟨a', l', c', e⟩ := hV
      rw [e] at h1 h2
      obtain ⟨A, rfl, h3, h4⟩ := rows_ofB hsp hbd h2
      exact ⟨(a', A, c'), h1, h3, h4⟩)
    refine ⟨T, hT.symm, ⟨⟨?_, fun z hz => ?_, by rw [hT]; omega⟩, fun z hz => ?_⟩⟩
    · by_cases h0 : T = []
      · exact .inl h0
      · have hpos : 0 < len := by rw [← hT]; exact List.length_pos_iff.2 h0
        obtain ⟨b, off, spot⟩ := y
        have hc0 := (hP 0 hpos).1
        obtain rfl : spot = none := by simpa [Addr.add] using World.cell?_spot hc0
        have hb : b < W.heap.size := by
          rcases Nat.lt_or_ge b W.heap.size with h | h
          · exact h
          · simp [World.cell?, Addr.add, h] at hc0
        refine .inr ⟨b, off, rfl, hb, fun i hi => ?_⟩
        have := (hP i (by omega)).1
        rwa [show (⟨b, off, none⟩ : Addr).add i = ⟨b, off + i, none⟩ by simp only [Addr.add]; split <;> simp_all] at this
    · obtain ⟨i, hi, e⟩ := List.getElem_of_mem hz
      have := (hP i (by omega)).2.1
      rw [show atT T i = z by simp [atT, hi, e]] at this
      exact this
    · obtain ⟨i, hi, e⟩ := List.getElem_of_mem hz
      have := (hP i (by omega)).2.2
      rw [show atT T i = z by simp [atT, hi, e]] at this
      exact this
end
end Go.Proofs.Ytepkmhcchmladaa
