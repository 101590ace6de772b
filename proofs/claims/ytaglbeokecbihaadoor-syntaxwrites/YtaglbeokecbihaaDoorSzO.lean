/- A rule that came in, as an argument and in a row. -/
import Derived.Test.YtaglbeokecbihaaDoorSyO
import Derived.Test.YtaglbeokecbihaaDoorSzF
namespace Go.Proofs.YtaglbeokecbihaaDoor
open Go.ChangeShapes Go.WideShapes Go.ChangeAt Go.Deep Go.RowKit
set_option linter.unusedVariables false
theorem ce65 : Tryd.prog.cellsOf 65 = 1 := by kernel_rfl
theorem ce67 : Tryd.prog.cellsOf 67 = 4 := by kernel_rfl
theorem list_ofP {P : Nat → PT → Prop} (n : Nat) (h : ∀ i, i < n → ∃ x, P i x) : ∃ T : List PT, T.length = n ∧ ∀ i, i < n → P i (paAt T i) := by
  induction n with
  | zero => exact ⟨[], rfl, fun i hi => by omega⟩
  | succ n ih =>
    obtain ⟨T, hT, hP⟩ := ih (fun i hi => h i (by omega))
    obtain ⟨x, hx⟩ := h n (by omega)
    refine ⟨T ++ [x], by simp [hT], fun i hi => ?_⟩
    rcases Nat.lt_succ_iff_lt_or_eq.1 hi with h1 | h1
    · have : paAt (T ++ [x]) i = paAt T i := by simp only [paAt]; rw [List.getElem?_append_left (by omega)]
      rw [this]; exact hP i h1
    · subst h1
      have : paAt (T ++ [x]) i = x := by simp only [paAt]; rw [List.getElem?_append_right (by omega), hT]; simp
      rw [this]; exact hx
section
variable {H : Type} {enc : TypeId × Value → H} {W : World} {b0 base : Nat} {spare : Nat → Bool} {held : Bool} {v : Value} {d : DataW H} {ps : List MemPlace}
set_option maxRecDepth 100000 in
theorem ps_of {fuel : Nat} {cs : List Value} {x : DataW H × List MemPlace} (h : DataW.trod enc Tryd.prog W base spare held fuel 65 cs = some x) : ∃ (a : Option Addr) (R : List PT) (cap : Nat), cs = [.slice a R.length cap] ∧ PIn W.heap.size W a R := by
  rcases open_slice Tryd.underlying65 h with ⟨hcs, _⟩ | ⟨y, len, cap, m, n, D, Pl, rfl, _, hl, hm, hmm, _, hall⟩
  · exact ⟨none, [], 0, hcs, .inl rfl⟩
  · have hml : len ≤ m := by rw [hmm]; split <;> omega
    have ce := ce40
    obtain ⟨R, hR, hP⟩ := list_ofP (P := fun i p => ∃ cs, PC W.heap.size W p cs ∧ ∀ j u, cs[j]? = some u → W.cell? (y.add (i * 15 + j)) = some u) len (fun i hi => by
      obtain ⟨cs', h1, h2⟩ := hall i (by omega)
      rw [ce] at h1
      obtain ⟨hlen, _, hcell⟩ := World.cells?_some h1
      obtain ⟨f, o, pn, a, T, cap, x1, x2, x3, y1, y2, y3, e1, e2, e3, e4, e5, e6, e7, e, rfl, hT, hx, hy, hE⟩ := p_of h2
      refine ⟨⟨f, o, pn, T, x1, x2, x3, y1, y2, y3, e⟩, _, ⟨a, cap, e1, e2, e3, e4, e5, e6, e7, rfl, hT, hx, hy, hE⟩, fun j u hu => ?_⟩
      have hj : j < 15 := by
        rcases Nat.lt_or_ge j 15 with h9 | h9
        · exact h9
        · rw [List.getElem?_eq_none (by show 15 ≤ j; exact h9)] at hu; cases hu
      have h4 := hcell j hj
      rw [add_add] at h4
      rw [h4, hu])
    refine ⟨some y, R, cap, by rw [hR], ?_⟩
    by_cases h0 : R = []
    · exact .inl h0
    · have hpos : 0 < len := by rw [← hR]; exact List.length_pos_iff.2 h0
      obtain ⟨cs, hpc, hc⟩ := hP 0 hpos
      obtain ⟨a, cap', e1, e2, e3, e4, e5, e6, e7, rfl, _⟩ := id hpc
      have hc0 := hc 0 _ rfl
      rw [show y.add (0 * 15 + 0) = y by simp [Addr.add]] at hc0
      obtain ⟨b, off, rfl, hb⟩ := spot_of hc0
      have ad : ∀ j, (⟨b, off, none⟩ : Addr).add j = ⟨b, off + j, none⟩ := fun j => by simp only [Addr.add]; split <;> simp_all
      refine .inr ⟨b, off, rfl, hb, fun i hi => ?_⟩
      obtain ⟨cs, h1, h2⟩ := hP i (by omega)
      refine ⟨cs, h1, fun j u hu => ?_⟩
      have := h2 j u hu
      rwa [ad, ← Nat.add_assoc] at this
set_option maxRecDepth 100000 in
theorem r_of {fuel : Nat} {cs : List Value} {x : DataW H × List MemPlace} (h : DataW.trod enc Tryd.prog W base spare held fuel 67 cs = some x) : ∃ (hd : Int) (a : Option Addr) (T : List TV) (c : Nat) (agg : Int) (b : Option Addr) (R : List PT) (d : Nat), cs = [.int .i64 hd, .slice a T.length c, .int .i64 agg, .slice b R.length d] ∧ TIn W.heap.size W a T ∧ PIn W.heap.size W b R := by
  obtain ⟨xs, k, hk, _, hl, hxl, hf⟩ := DataW.trod_struct Tryd.underlying67 h
  have g0 := hf 0 _ rfl
  have g1 := hf 1 _ rfl
  have g2 := hf 2 _ rfl
  rw [ce67] at hl
  match xs, hxl, cs, hl with
  | [q0, q1, q2], _, [v0, v1, v2, v3], _ =>
    have c3 := ce3
    have c35 := ce35
    have c65 := ce65
    simp [c3, c35, c65] at g0 g1 g2
    obtain ⟨hd, a, T, c, r0, hT⟩ := a_of g0
    obtain ⟨agg, r1, _⟩ := DataW.trod_int Tryd.underlying3 g1
    obtain ⟨b, R, d, r2, hR⟩ := ps_of g2
    simp only [List.cons.injEq, and_true] at r0 r1 r2
    obtain ⟨rfl, rfl⟩ := r0
    subst r1 r2
    exact ⟨_, a, T, c, _, b, R, d, rfl, hT, hR⟩
set_option maxRecDepth 100000 in
theorem r_arg (hv : Value.okWide Tryd.prog W .any b0 67 v) (h : DataW.Trod enc Tryd.prog W base spare held 67 v d ps) : ∃ (hd : Int) (a : Option Addr) (T : List TV) (c : Nat) (agg : Int) (b : Option Addr) (R : List PT) (d : Nat), v = .agg #[.int .i64 hd, .slice a T.length c, .int .i64 agg, .slice b R.length d] ∧ TIn W.heap.size W a T ∧ PIn W.heap.size W b R := by
  obtain ⟨cs, rfl, _⟩ := okWide_struct Tryd.underlying67 hv
  obtain ⟨fuel, hf⟩ := h
  obtain ⟨hd, a, T, c, agg, b, R, d, e, hT, hR⟩ := r_of hf
  exact ⟨hd, a, T, c, agg, b, R, d, agg_list e, hT, hR⟩
end
end Go.Proofs.YtaglbeokecbihaaDoor
