/- What the walk of StoreActs is told of a slice of Acts (a kind, rows) that came in. -/
import Derived.Test.YtepkmhcchmladaaUArg
import Derived.Deep.SlicePairs
namespace Go.Proofs.Ytepkmhcchmladaa
open Go.ChangeShapes Go.WideShapes Go.ChangeAt Go.RowKit Go.Deep
set_option linter.unusedVariables false
set_option linter.unusedSimpArgs false

abbrev AV := Int × TV
def atA (T : List AV) (i : Nat) : AV := T[i]?.getD (0, none, [], 0)
theorem atA_mem {T : List AV} {i : Nat} (h : i < T.length) : atA T i ∈ T := by simp only [atA, List.getElem?_eq_getElem h, Option.getD_some]; exact List.getElem_mem h
structure AArgs (w : World) (a : Option Addr) (T : List AV) : Prop where
  cells : T = [] ∨ ∃ b off, a = some ⟨b, off, none⟩ ∧ b < w.heap.size ∧ ∀ i, i < T.length → w.cell? ⟨b, off + i * 2, none⟩ = some (.int .i64 (atA T i).1) ∧ w.cell? ⟨b, off + i * 2 + 1, none⟩ = some (.slice (atA T i).2.1 (atA T i).2.2.1.length (atA T i).2.2.2)
  rows : ∀ x ∈ T, NestArgs w x.2.1 x.2.2.1 ∧ ∀ y ∈ x.2.2.1, InRange y.2.1
  len : T.length ≤ maxLen
theorem AArgs.at {w W : World} {B : Nat} {a : Option Addr} {T : List AV} (h : AArgs w a T) (hB : w.heap.size = B) (hb : Below B w W) {i : Nat} (hi : i < T.length) :
    ∃ b off, a = some ⟨b, off, none⟩ ∧ W.cell? ⟨b, off + i * 2, none⟩ = some (.int .i64 (atA T i).1) ∧ W.cell? ⟨b, off + i * 2 + 1, none⟩ = some (.slice (atA T i).2.1 (atA T i).2.2.1.length (atA T i).2.2.2) := by
  rcases h.cells with h0 | ⟨b, off, ha, hlt, hc⟩
  · subst h0; simp at hi
  · exact ⟨b, off, ha, (hb.cell (p := ⟨b, off + i * 2, none⟩) (by rw [← hB]; exact hlt)).trans (hc i hi).1, (hb.cell (p := ⟨b, off + i * 2 + 1, none⟩) (by rw [← hB]; exact hlt)).trans (hc i hi).2⟩
section
variable {H : Type} {enc : TypeId × Value → H} {W : World} {base : Nat} {spare : Nat → Bool} {held : Bool}
theorem list_ofA {P : Nat → AV → Prop} (n : Nat) (h : ∀ i, i < n → ∃ x, P i x) : ∃ T : List AV, T.length = n ∧ ∀ i, i < n → P i (atA T i) := by
  induction n with
  | zero => exact ⟨[], rfl, fun i hi => by omega⟩
  | succ n ih =>
    obtain ⟨T, hT, hP⟩ := ih (fun i hi => h i (by omega))
    obtain ⟨x, hx⟩ := h n (by omega)
    refine ⟨T ++ [x], by simp [hT], fun i hi => ?_⟩
    rcases Nat.lt_succ_iff_lt_or_eq.1 hi with h1 | h1
    · have : atA (T ++ [x]) i = atA T i := by simp only [atA]; rw [List.getElem?_append_left (by omega)]
      rw [this]; exact hP i h1
    · subst h1
      have : atA (T ++ [x]) i = x := by simp only [atA]; rw [List.getElem?_append_right (by omega), hT]; simp
      rw [this]; exact hx
theorem acts_of {fuel : Nat} {a : Option Addr} {len cap : Nat} {x : DataW H × List MemPlace} (hsp : ∀ b, spare b = true) (hbd : ∀ n, (Lit.int .i64 n).wf = true → -9223372036854775808 ≤ n ∧ n ≤ 9223372036854775807)
    (h : DataW.trod enc Try.prog W base spare held fuel 36 [.slice a len cap] = some x) : ∃ T : List AV, len = T.length ∧ AArgs W a T := by
  rcases open_slice_pairs Try.underlying36 Try.underlying66 (by kernel_rfl) rfl rfl (by kernel_rfl) (by kernel_rfl) h with ⟨hcs, _⟩ | ⟨y, l, c, m, n, V0, V1, D0, D1, P0, P1, hcs, _, hl, hm, hmm, _, hall⟩
  · simp at hcs
    obtain ⟨rfl, rfl, rfl⟩ := hcs
    exact ⟨[], rfl, ⟨.inl rfl, fun x hx => (by cases hx), Nat.zero_le _⟩⟩
  · simp at hcs
    obtain ⟨rfl, rfl, rfl⟩ := hcs
    have hml : len ≤ m := by rw [hmm]; split <;> omega
    obtain ⟨T, hT, hP⟩ := list_ofA (P := fun i z => W.cell? (y.add (i * 2)) = some (.int .i64 z.1) ∧ W.cell? (y.add (i * 2 + 1)) = some (.slice z.2.1 z.2.2.1.length z.2.2.2) ∧ NestArgs W z.2.1 z.2.2.1 ∧ ∀ y ∈ z.2.2.1, InRange y.2.1) len (fun i hil => by
      obtain ⟨h1, h2, h3, h4⟩ := hall i (by omega)
      obtain ⟨k, e0, _⟩ := DataW.trod_int Try.underlying3 h3
      have hV : ∃ a' l' c', V1 i = .slice a' l' c' := by
        rcases open_slice1 Try.underlying28 (by kernel_rfl) h4 with ⟨hcs, _⟩ | ⟨y', l', c', m', n', V', D', Pl', hcs, _⟩
        · simp at hcs; exact ⟨_, _, _, hcs⟩
        · simp at hcs; exact ⟨_, _, _, hcs⟩
      obtain ⟨a', l', c', e⟩ := hV
      rw [e] at h2 h4
      obtain ⟨A, rfl, h5, h6⟩ := rows_ofB hsp hbd h4
      simp only [List.cons.injEq, and_true] at e0
      exact ⟨(k, a', A, c'), by rw [h1, e0], h2, h5, h6⟩)
    refine ⟨T, hT.symm, ⟨?_, fun z hz => ?_, by rw [hT]; omega⟩⟩
    · by_cases h0 : T = []
      · exact .inl h0
      · have hpos : 0 < len := by rw [← hT]; exact List.length_pos_iff.2 h0
        obtain ⟨b, off, spot⟩ := y
        have hc0 := (hP 0 hpos).1
        obtain rfl : spot = none := by simpa [Addr.add] using World.cell?_spot hc0
        have hb : b < W.heap.size := by
          rcases Nat.lt_or_ge b W.heap.size with h | h
          · exact h
          · simp [World.cell?, Addr.add, h] at hc0
        have ad : ∀ j, (⟨b, off, none⟩ : Addr).add j = ⟨b, off + j, none⟩ := fun j => by simp only [Addr.add]; split <;> simp_all
        refine .inr ⟨b, off, rfl, hb, fun i hi => ?_⟩
        have := hP i (by omega)
        rw [ad, ad] at this
        exact ⟨this.1, by rw [Nat.add_assoc]; exact this.2.1⟩
    · obtain ⟨i, hi, e⟩ := List.getElem_of_mem hz
      have := (hP i (by omega)).2.2
      rw [show atA T i = z by simp [atA, hi, e]] at this
      exact this
end
end Go.Proofs.Ytepkmhcchmladaa
