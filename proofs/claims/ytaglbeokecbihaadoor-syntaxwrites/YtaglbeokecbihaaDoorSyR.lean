/- What the walks are told of the arguments that came in: terms, atoms, expressions, parts. -/
import Derived.Test.YtaglbeokecbihaaDoorSyG
import Derived.Deep.Slices
import Derived.Deep.Strs
import Derived.OpenShut
namespace Go.Proofs.YtaglbeokecbihaaDoor
open Go.ChangeShapes Go.WideShapes Go.Deep Go.RowKit
set_option linter.unusedVariables false
set_option linter.unusedSimpArgs false

theorem ce3 : Tryd.prog.cellsOf 3 = 1 := by kernel_rfl
theorem ce2 : Tryd.prog.cellsOf 2 = 1 := by kernel_rfl
theorem ce32 : Tryd.prog.cellsOf 32 = 3 := by kernel_rfl
theorem ce33 : Tryd.prog.cellsOf 33 = 1 := by kernel_rfl
theorem ce36 : Tryd.prog.cellsOf 36 = 1 := by kernel_rfl
theorem ce38 : Tryd.prog.cellsOf 38 = 5 := by kernel_rfl
theorem ce35 : Tryd.prog.cellsOf 35 = 2 := by kernel_rfl
section
variable {H : Type} {enc : TypeId × Value → H} {W : World} {base : Nat} {spare : Nat → Bool} {held : Bool}
theorem gok_of {n : Int} (h : (Lit.int .i64 n).wf = true) : Gok n := by
  have := bounds_i64 h
  exact this
set_option maxRecDepth 100000 in
theorem t_of {fuel : Nat} {cs : List Value} {x : DataW H × List MemPlace} (h : DataW.trod enc Tryd.prog W base spare held fuel 32 cs = some x) : ∃ K N G, cs = [.int .i64 K, .int .i64 N, .int .i64 G] ∧ Gok G := by
  obtain ⟨y0, y1, y2, k, _, hl, g0, g1, g2⟩ := trod_struct3 Tryd.underlying32 h
  rw [ce32] at hl
  match cs, hl with
  | [v0, v1, v2], _ =>
    have c3 := ce3
    have c2 := ce2
    simp [c3, c2] at g0 g1 g2
    obtain ⟨k0, e0, _⟩ := DataW.trod_int Tryd.underlying3 g0
    obtain ⟨k1, e1, _⟩ := DataW.trod_int Tryd.underlying3 g1
    obtain ⟨k2, e2, _, w2⟩ := DataW.trod_int Tryd.underlying2 g2
    simp only [List.cons.injEq, and_true] at e0 e1 e2
    exact ⟨k0, k1, k2, by rw [e0, e1, e2], gok_of w2⟩
theorem list_ofT {P : Nat → TV → Prop} (n : Nat) (h : ∀ i, i < n → ∃ x, P i x) : ∃ T : List TV, T.length = n ∧ ∀ i, i < n → P i (atT T i) := by
  induction n with
  | zero => exact ⟨[], rfl, fun i hi => by omega⟩
  | succ n ih =>
    obtain ⟨T, hT, hP⟩ := ih (fun i hi => h i (by omega))
    obtain ⟨x, hx⟩ := h n (by omega)
    refine ⟨T ++ [x], by simp [hT], fun i hi => ?_⟩
    rcases Nat.lt_succ_iff_lt_or_eq.1 hi with h1 | h1
    · have : atT (T ++ [x]) i = atT T i := by simp only [atT]; rw [List.getElem?_append_left (by omega)]
      rw [this]; exact hP i h1
    · subst h1
      have : atT (T ++ [x]) i = x := by simp only [atT]; rw [List.getElem?_append_right (by omega), hT]; simp
      rw [this]; exact hx
theorem spot_of {y : Addr} {v : Value} (h : W.cell? y = some v) : ∃ b off, y = ⟨b, off, none⟩ ∧ b < W.heap.size := by
  obtain ⟨b, off, spot⟩ := y
  obtain rfl : spot = none := by simpa using World.cell?_spot h
  refine ⟨b, off, rfl, ?_⟩
  rcases Nat.lt_or_ge b W.heap.size with h9 | h9
  · exact h9
  · simp [World.cell?, h9] at h
set_option maxRecDepth 100000 in
theorem ts_of {fuel : Nat} {cs : List Value} {x : DataW H × List MemPlace} (h : DataW.trod enc Tryd.prog W base spare held fuel 33 cs = some x) : ∃ (a : Option Addr) (T : List TV) (cap : Nat), cs = [.slice a T.length cap] ∧ TIn W.heap.size W a T := by
  rcases open_slice Tryd.underlying33 h with ⟨hcs, _⟩ | ⟨y, len, cap, m, n, D, Pl, rfl, _, hl, hm, hmm, _, hall⟩
  · exact ⟨none, [], 0, hcs, ⟨fun x hx => (by cases hx), .inl rfl⟩⟩
  · have hml : len ≤ m := by rw [hmm]; split <;> omega
    have ce := ce32
    obtain ⟨T, hT, hP⟩ := list_ofT (P := fun i z => Gok z.2.2 ∧ W.cell? (y.add (i * 3)) = some (.int .i64 z.1) ∧ W.cell? (y.add (i * 3 + 1)) = some (.int .i64 z.2.1) ∧ W.cell? (y.add (i * 3 + 2)) = some (.int .i64 z.2.2)) len (fun i hi => by
      obtain ⟨cs', h1, h2⟩ := hall i (by omega)
      rw [ce] at h1
      obtain ⟨_, _, hcell⟩ := World.cells?_some h1
      obtain ⟨K, N, G, rfl, hG⟩ := t_of h2
      have f0 := hcell 0 (by omega)
      have f1 := hcell 1 (by omega)
      have f2 := hcell 2 (by omega)
      rw [add_add] at f0 f1 f2
      exact ⟨(K, N, G), hG, by simpa using f0, by simpa using f1, by simpa using f2⟩)
    refine ⟨some y, T, cap, by rw [hT], ⟨fun z hz => ?_, ?_⟩⟩
    · obtain ⟨i, hi, e⟩ := List.getElem_of_mem hz
      have := (hP i (by omega)).1
      rwa [show atT T i = z by simp [atT, hi, e]] at this
    · by_cases h0 : T = []
      · exact .inl h0
      · have hpos : 0 < len := by rw [← hT]; exact List.length_pos_iff.2 h0
        have hc0 := (hP 0 hpos).2.1
        rw [Nat.zero_mul, show y.add 0 = y by simp [Addr.add]] at hc0
        obtain ⟨b, off, rfl, hb⟩ := spot_of hc0
        have ad : ∀ j, (⟨b, off, none⟩ : Addr).add j = ⟨b, off + j, none⟩ := fun j => by simp only [Addr.add]; split <;> simp_all
        refine .inr ⟨b, off, rfl, hb, fun i hi => ?_⟩
        have := (hP i (by omega)).2
        rw [ad, ad, ad] at this
        exact ⟨this.1, by rw [Nat.add_assoc]; exact this.2.1, by rw [Nat.add_assoc]; exact this.2.2⟩
set_option maxRecDepth 100000 in
theorem e_of : ∀ (fuel : Nat) (cs : List Value) (x : DataW H × List MemPlace), DataW.trod enc Tryd.prog W base spare held fuel 38 cs = some x → ∃ (e : ET) (v : EV), cs = v.cells ∧ EIn W.heap.size W e v := by
  intro fuel
  induction fuel using Nat.strongRecOn with
  | _ fuel ih =>
    intro cs x h
    obtain ⟨xs, k, hk, _, hl, hxl, hf⟩ := DataW.trod_struct Tryd.underlying38 h
    have g0 := hf 0 _ rfl
    have g1 := hf 1 _ rfl
    have g2 := hf 2 _ rfl
    rw [ce38] at hl
    match xs, hxl, cs, hl with
    | [q0, q1, q2], _, [v0, v1, v2, v3, v4], _ =>
      have c3 := ce3
      have c32 := ce32
      have c36 := ce36
      simp [c3, c32, c36] at g0 g1 g2
      obtain ⟨K, N, G, e0, hG⟩ := t_of g0
      obtain ⟨O, e1, _⟩ := DataW.trod_int Tryd.underlying3 g1
      simp only [List.cons.injEq, and_true] at e0 e1
      obtain ⟨rfl, rfl, rfl⟩ := e0
      subst e1
      rcases DataW.trod_slice Tryd.underlying36 g2 with ⟨hcs, _⟩ | ⟨y, len, cap, elems, rest, n, hn, hcs, _, hb, hlc, hm, hlen, hel, _, _⟩
      · simp only [List.cons.injEq, and_true] at hcs
        subst hcs
        exact ⟨.none K N G O, ⟨K, N, G, O, none, 0, 0⟩, rfl, ⟨rfl, rfl, rfl, rfl, rfl⟩, hG⟩
      · simp only [List.cons.injEq, and_true] at hcs
        subst hcs
        have kid : ∀ i, i < len → ∃ (e : ET) (v : EV), EIn W.heap.size W e v ∧ ∀ j u, v.cells[j]? = some u → W.cell? (y.add (i * 5 + j)) = some u := fun i hi => by
          have h1 := hel i hi
          rw [List.getElem?_eq_getElem (by omega), ce38] at h1
          obtain ⟨cs', h2, h3⟩ := Option.bind_eq_some_iff.1 h1
          obtain ⟨e, v, rfl, hE⟩ := ih n (by omega) cs' _ h3
          obtain ⟨_, _, hcell⟩ := World.cells?_some h2
          refine ⟨e, v, hE, fun j u hu => ?_⟩
          have hj : j < 5 := by
            rcases Nat.lt_or_ge j 5 with h9 | h9
            · exact h9
            · rw [List.getElem?_eq_none (by show 5 ≤ j; exact h9)] at hu; cases hu
          have h4 := hcell j hj
          rw [add_add] at h4
          rw [h4, hu]
        by_cases h0 : len = 0
        · subst h0
          exact ⟨.none K N G O, ⟨K, N, G, O, some y, 0, cap⟩, rfl, ⟨rfl, rfl, rfl, rfl, rfl⟩, hG⟩
        obtain ⟨ea, va, hEa, hca⟩ := kid 0 (by omega)
        have hc0 := hca 0 (.int .i64 va.K) rfl
        rw [show y.add (0 * 5 + 0) = y by simp [Addr.add]] at hc0
        obtain ⟨b, off, rfl, hbW⟩ := spot_of hc0
        have ad : ∀ j, (⟨b, off, none⟩ : Addr).add j = ⟨b, off + j, none⟩ := fun j => by simp only [Addr.add]; split <;> simp_all
        have fa : ∀ j u, va.cells[j]? = some u → W.cell? ⟨b, off + j, none⟩ = some u := fun j u hu => by
          have := hca j u hu
          rwa [ad, show 0 * 5 + j = j by omega] at this
        by_cases h1 : len = 1
        · subst h1
          exact ⟨.one K N G O ea, ⟨K, N, G, O, some ⟨b, off, none⟩, 1, cap⟩, rfl, ⟨rfl, rfl, rfl, rfl, rfl⟩, hG, b, off, va, rfl, hbW, fa, hEa⟩
        obtain ⟨eb, vb, hEb, hcb⟩ := kid 1 (by omega)
        have fb : ∀ j u, vb.cells[j]? = some u → W.cell? ⟨b, off + 5 + j, none⟩ = some u := fun j u hu => by
          have := hcb j u hu
          rwa [ad, show off + (1 * 5 + j) = off + 5 + j by omega] at this
        exact ⟨.two K N G O ea eb, ⟨K, N, G, O, some ⟨b, off, none⟩, len, cap⟩, rfl, ⟨rfl, rfl, rfl, rfl, (by show 2 ≤ len; omega)⟩, hG, b, off, va, vb, rfl, hbW, fa, fb, hEa, hEb⟩
end
end Go.Proofs.YtaglbeokecbihaaDoor
