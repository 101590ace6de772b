/- The order of keyed rows; the sort's elements. -/
import Derived.Test.YtcecndjkfdaaaaaJn4
namespace Go.Proofs.Ytcecndjkfdaaaaa
open Go.RowKit Go.Shelf Go.Sort
set_option linter.unusedVariables false
set_option linter.unusedSimpArgs false

theorem ltK_trans {a b c : List Int} {i j k : Nat} (h : cmpR a b < 0 ∨ a = b ∧ i < j) (h' : cmpR b c < 0 ∨ b = c ∧ j < k) : cmpR a c < 0 ∨ a = c ∧ i < k := by
  rcases h with h | ⟨rfl, h⟩
  · rcases h' with h' | ⟨rfl, h'⟩
    · exact .inl (cmpR_trans h h')
    · exact .inl h
  · rcases h' with h' | ⟨rfl, h'⟩
    · exact .inl h'
    · exact .inr ⟨rfl, by omega⟩
theorem ltK_total (a b : List Int) (i j : Nat) : (cmpR a b < 0 ∨ a = b ∧ i < j) ∨ (a = b ∧ i = j) ∨ (cmpR b a < 0 ∨ b = a ∧ j < i) := by
  rcases cmpR_tri a b with h | h | h
  · exact .inl (.inl h)
  · subst h
    rcases Nat.lt_trichotomy i j with h | h | h
    · exact .inl (.inr ⟨rfl, h⟩)
    · exact .inr (.inl ⟨rfl, h⟩)
    · exact .inr (.inr (.inr ⟨rfl, h⟩))
  · exact .inr (.inr (.inl ((cmpR_neg b a).2 h)))
theorem ltK_ntrans {a b c : List Int} {i j k : Nat} (h : ¬ (cmpR a b < 0 ∨ a = b ∧ i < j)) (h' : ¬ (cmpR b c < 0 ∨ b = c ∧ j < k)) : ¬ (cmpR a c < 0 ∨ a = c ∧ i < k) := by
  intro hc
  rcases ltK_total a b i j with h1 | ⟨rfl, rfl⟩ | h1
  · exact h h1
  · exact h' hc
  · exact h' (ltK_trans h1 hc)
theorem cmpK_lt (x y : KE) : cmpK x y < 0 ↔ cmpR x.1.2.1 y.1.2.1 < 0 ∨ x.1.2.1 = y.1.2.1 ∧ x.2 < y.2 := by
  obtain ⟨⟨xa, xs, xc⟩, i⟩ := x
  obtain ⟨⟨ya, ys, yc⟩, j⟩ := y
  unfold cmpK cmpS cmp3
  dsimp only
  rcases cmpR_tri xs ys with h | h | h
  · simp [h]
  · subst h
    rw [cmpR_self]
    by_cases h1 : i < j
    · simp [h1]
    · by_cases h2 : j < i <;> simp [h1, h2]
  · have h1 : ¬ cmpR xs ys < 0 := by omega
    have h2 : ¬ xs = ys := fun e => by rw [e, cmpR_self] at h; omega
    simp [h, h1, h2]
/-- The elements: those whose keys may be read beside block g. -/
abbrev KA (w0 : World) (g : Nat) := {x : KE // (Row w0 x.1.1 x.1.2.1 ∧ x.1.2.1.length ≤ 1000000) ∧ ∀ p, x.1.1 = some p → p.block < w0.heap.size ∧ p.block ≠ g}
instance instKA (w0 : World) (g : Nat) : Inhabited (KA w0 g) := ⟨⟨((none, [], 0), 0), ⟨.inl rfl, Nat.zero_le _⟩, fun p hp => by cases hp⟩⟩
def encK {w0 : World} {g : Nat} (x : KA w0 g) : List Value := [encV x.1.1, .int .i64 x.1.2]
def cfK {w0 : World} {g : Nat} (x y : KA w0 g) : Int := cmpK x.1 y.1
theorem cfK_lt {w0 : World} {g : Nat} (x y : KA w0 g) : ltOf cfK x y = decide (cmpR x.1.1.2.1 y.1.1.2.1 < 0 ∨ x.1.1.2.1 = y.1.1.2.1 ∧ x.1.2 < y.1.2) := by
  unfold ltOf cfK
  exact decide_eq_decide.2 (cmpK_lt x.1 y.1)
theorem cfK_swo (w0 : World) (g : Nat) : SWO (ltOf (cfK (w0 := w0) (g := g))) where
  irrefl x := by rw [cfK_lt, cmpR_self]; simp
  trans x y z h1 h2 := by rw [cfK_lt] at *; simp only [decide_eq_true_eq] at *; exact ltK_trans h1 h2
  ntrans x y z h1 h2 := by rw [cfK_lt] at *; simp only [decide_eq_false_iff_not] at *; exact ltK_ntrans h1 h2
theorem alloc_grow (W : World) (o : Obj) : W.alloc o = grow W #[o] := by
  rcases W with ⟨h, t, dn, os, out⟩
  show World.mk (h.push o) t dn os out = World.mk (h ++ #[o]) t dn os out
  rw [Array.push_eq_append]
theorem cmpLaysK {w : World} {g n : Nat} : CmpLays Try.prog 73 #[] (encK (w0 := w) (g := g)) 2 cfK g 0 n w := by
  intro m os dk hdk x y
  have row : ∀ z : KA w g, Row (sortWorldK encK 2 w g 0 m dk os) z.1.1.1 z.1.1.2.1 := by
    intro z
    rcases z.2.1.1 with h | ⟨b, off, h, hlt, hc⟩
    · exact .inl h
    · have h2 := z.2.2 _ h
      exact .inr ⟨b, off, h, Nat.lt_of_lt_of_le hlt (size_sortWorldK_c encK 2 w g 0 m dk os), fun i hi => (cell?_sortWorldK_other encK 2 w g 0 m dk os ⟨b, off + i, none⟩ h2.2 hlt).trans (hc i hi)⟩
  refine (cmp67_calls x.1 y.1 _ (row x) (row y) x.2.1.2 y.2.1.2).mono fun e w' ⟨he, hw⟩ => ⟨he, 0, #[.cells #[encV x.1.1, .int .i64 x.1.2] 78, .cells #[encV y.1.1, .int .i64 y.1.2] 78], ?_⟩
  rw [hw]
  rw [alloc_grow, alloc_grow, grow_grow]
  rfl
/-- The cells of keyed rows, one by one. -/
theorem flatK_get (L : List KE) (t : Nat) (h : t < L.length * 2) : ∃ e, L[t / 2]? = some e ∧ (flatK L)[t]? = [encV e.1, Value.int .i64 e.2][t % 2]? := by
  induction L generalizing t with
  | nil => simp at h
  | cons x L ih =>
    have e0 : flatK (x :: L) = encV x.1 :: .int .i64 x.2 :: flatK L := by simp [flatK]
    match t, h with
    | 0, _ => exact ⟨x, rfl, by rw [e0]; rfl⟩
    | 1, _ => exact ⟨x, rfl, by rw [e0]; rfl⟩
    | t + 2, h =>
      obtain ⟨e, h1, h2⟩ := ih t (by simp at h; omega)
      refine ⟨e, by rw [show (t + 2) / 2 = t / 2 + 1 by omega]; simpa using h1, ?_⟩
      rw [e0, show (t + 2) % 2 = t % 2 by omega, ← h2]; rfl
theorem flatK_len (L : List KE) : (flatK L).length = L.length * 2 := by
  induction L with
  | nil => rfl
  | cons x L ih => rw [show flatK (x :: L) = encV x.1 :: .int .i64 x.2 :: flatK L by simp [flatK]]; simp [ih]; omega
/-- The shelf's row of keyed rows is ours. -/
theorem kit_flat {w : World} {g : Nat} (d : Array (KA w g)) : (Go.Sort.flatK encK 2 d).toList = flatK (d.toList.map (·.1)) := by
  apply List.ext_getElem?
  intro t
  by_cases h : t < d.size * 2
  · obtain ⟨e, h1, h2⟩ := flatK_get (d.toList.map (·.1)) t (by simpa using h)
    have hi : t / 2 < d.size := by omega
    have he : e = (d[t / 2]).1 := by simpa [hi] using h1.symm
    rw [h2, he]
    have := get_flatK encK 2 d t h
    have hs : t < (Go.Sort.flatK encK 2 d).size := by rw [size_flatK]; exact h
    rw [Array.getElem?_toList, Array.getElem?_eq_getElem hs]
    rw [getElem!_pos _ t hs, getElem!_pos d (t / 2) hi] at this
    rw [this]
    have : t % 2 = 0 ∨ t % 2 = 1 := by omega
    rcases this with e | e <;> rw [e] <;> rfl
  · rw [List.getElem?_eq_none (by simp; omega), List.getElem?_eq_none (by rw [flatK_len]; simp; omega)]
end Go.Proofs.Ytcecndjkfdaaaaa
