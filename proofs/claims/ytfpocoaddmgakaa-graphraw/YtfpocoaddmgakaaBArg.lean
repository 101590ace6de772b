import Derived.Test.YtfpocoaddmgakaaGc
import Derived.Deep.Slices
/- What the walks are told of a slice of rows that came in. -/
namespace Go.Proofs.Ytfpocoaddmgakaa
open Go.ChangeShapes Go.WideShapes Go.ChangeAt Go.RowKit Go.Deep
set_option linter.unusedVariables false
set_option linter.unusedSimpArgs false

def NestArgs (w : World) (a : Option Addr) (A : List RV) : Prop := RRow w a A ∧ A.length ≤ maxLen ∧ ∀ x ∈ A, x.2.1.length ≤ maxLen
def InRange (key : List Int) : Prop := ∀ x ∈ key, -9223372036854775808 ≤ x ∧ x ≤ 9223372036854775807
theorem list_of {P : Nat → RV → Prop} : ∀ n, (∀ i, i < n → ∃ y, P i y) → ∃ L : List RV, L.length = n ∧ ∀ i, i < n → P i (atV L i)
  | 0, _ => ⟨[], rfl, fun i hi => by omega⟩
  | n + 1, h => by
    obtain ⟨L, hl, hL⟩ := list_of n (fun i hi => h i (by omega))
    obtain ⟨y, hy⟩ := h n (by omega)
    refine ⟨L ++ [y], by simp [hl], fun i hi => ?_⟩
    by_cases e : i = n
    · subst e; rw [show atV (L ++ [y]) i = y by simp [atV, ← hl]]; exact hy
    · have : atV (L ++ [y]) i = atV L i := by simp [atV, List.getElem?_append_left (show i < L.length by omega)]
      rw [this]; exact hL i (by omega)
section
variable {H : Type} {enc : TypeId × Value → H} {W : World} {base : Nat} {spare : Nat → Bool} {held : Bool}
theorem isRow_of {t e : TypeId} {fuel : Nat} {a : Option Addr} {len cap : Nat} {x : DataW H × List MemPlace} (ht : Try.prog.underlying t = some (.slice e)) (he : Try.prog.underlying e = some (.int .i64)) (hc : Try.prog.cellsOf e = 1) (hsp : ∀ b, spare b = true)
    (h : DataW.trod enc Try.prog W base spare held fuel t [.slice a len cap] = some x) : ∃ zs, IsRow .i64 W a len cap zs := by
  rcases open_ints ht he hc h with ⟨hcs, _⟩ | ⟨y, l, c, zs, hcs, _, hl, hm, hz, _, hcell, hwz⟩
  · simp at hcs
    obtain ⟨rfl, rfl, rfl⟩ := hcs
    exact ⟨[], .inl ⟨rfl, rfl, rfl, rfl⟩⟩
  · simp at hcs
    obtain ⟨rfl, rfl, rfl⟩ := hcs
    exact ⟨zs, .inr ⟨_, rfl, hl, hm, by simpa [hsp] using hz, hcell, hwz⟩⟩
theorem isRow_cap {a : Option Addr} {len cap : Nat} {zs : List Int} (h : IsRow .i64 W a len cap zs) : len ≤ cap ∧ cap ≤ maxLen := by
  rcases h with ⟨_, rfl, rfl, _⟩ | ⟨_, _, hl, hm, _⟩
  · exact ⟨Nat.le_refl _, Nat.zero_le _⟩
  · exact ⟨hl, hm⟩
theorem rows_ofB {fuel : Nat} {a : Option Addr} {len cap : Nat} {x : DataW H × List MemPlace} (hsp : ∀ b, spare b = true) (hbd : ∀ n, (Lit.int .i64 n).wf = true → -9223372036854775808 ≤ n ∧ n ≤ 9223372036854775807)
    (h : DataW.trod enc Try.prog W base spare held fuel 24 [.slice a len cap] = some x) : ∃ A : List RV, len = A.length ∧ NestArgs W a A ∧ ∀ x ∈ A, InRange x.2.1 := by
  rcases open_slice1 Try.underlying24 (by kernel_rfl) h with ⟨hcs, _⟩ | ⟨y, l, c, m, n, V, D, Pl, hcs, _, hl, hm, hmm, _, hi⟩
  · simp at hcs
    obtain ⟨rfl, rfl, rfl⟩ := hcs
    exact ⟨[], rfl, ⟨⟨.inl rfl, fun x hx => by cases hx⟩, Nat.zero_le _, fun x hx => by cases hx⟩, fun x hx => by cases hx⟩
  · simp at hcs
    obtain ⟨rfl, rfl, rfl⟩ := hcs
    have hml : len ≤ m := by rw [hmm]; split <;> omega
    obtain ⟨A, hA, hP⟩ := list_of (P := fun i z => W.cell? (y.add i) = some (encV z) ∧ Row W z.1 z.2.1 ∧ z.2.1.length ≤ z.2.2 ∧ z.2.1.length ≤ maxLen ∧ InRange z.2.1) len (fun i hil => by
      obtain ⟨h1, h2⟩ := hi i (by omega)
      have hV : ∃ a' l' c', V i = .slice a' l' c' := by
        rcases open_ints Try.underlying22 Try.underlying3 (by kernel_rfl) h2 with ⟨hcs, _⟩ | ⟨y', l', c', zs', hcs, _⟩
        · simp at hcs; exact ⟨_, _, _, hcs⟩
        · simp at hcs; exact ⟨_, _, _, hcs⟩
      obtain ⟨a', l', c', e⟩ := hV
      rw [e] at h1 h2
      obtain ⟨zs, hz⟩ := isRow_of Try.underlying22 Try.underlying3 (by kernel_rfl) hsp h2
      obtain ⟨h3, h4⟩ := isRow_cap hz
      obtain ⟨ys, e2, hR, hbn, hml'⟩ := isRow_row hz hbd
      subst e2
      exact ⟨(a', ys, c'), h1, hR, h3, hml', hbn⟩)
    refine ⟨A, hA.symm, ⟨⟨?_, fun z hz => ?_⟩, by rw [hA]; omega, fun z hz => ?_⟩, fun z hz => ?_⟩
    · by_cases h0 : A = []
      · exact .inl h0
      · have hpos : 0 < len := by rw [← hA]; exact List.length_pos_iff.2 h0
        obtain ⟨b, off, spot⟩ := y
        have hc0 := (hP 0 hpos).1
        obtain rfl : spot = none := by simpa [Addr.add] using World.cell?_spot hc0
        have hb : b < W.heap.size := by
          rcases Nat.lt_or_ge b W.heap.size with h | h
          · exact h
          · simp [World.cell?, Addr.add, h] at hc0
        refine .inr ⟨b, off, rfl, hb, fun i hi => ?_⟩
        have := (hP i (by omega)).1
        rwa [show (⟨b, off, none⟩ : Addr).add i = ⟨b, off + i, none⟩ by simp only [Addr.add]; split <;> simp_all] at this
    · obtain ⟨i, hi, e⟩ := List.getElem_of_mem hz
      have := hP i (by omega)
      rw [atV_eq hi, e] at this
      exact ⟨this.2.1, this.2.2.1⟩
    · obtain ⟨i, hi, e⟩ := List.getElem_of_mem hz
      have := hP i (by omega)
      rw [atV_eq hi, e] at this
      exact this.2.2.2.1
    · obtain ⟨i, hi, e⟩ := List.getElem_of_mem hz
      have := hP i (by omega)
      rw [atV_eq hi, e] at this
      exact this.2.2.2.2
end
end Go.Proofs.Ytfpocoaddmgakaa
