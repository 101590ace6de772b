/- The arguments of the laws, opened: terms, atoms, parts, expressions as struct values. -/
import Derived.Test.YtaglbeokecbihaaDoorSyS
import Derived.ProofKit
namespace Go.Proofs.YtaglbeokecbihaaDoor
open Go.ChangeShapes Go.WideShapes Go.ChangeAt Go.Deep Go.RowKit
set_option linter.unusedVariables false
section
variable {H : Type} {enc : TypeId × Value → H} {W : World} {b0 base : Nat} {spare : Nat → Bool} {held : Bool} {v : Value} {d : DataW H} {ps : List MemPlace}
theorem agg_list {cs : Array Value} {l : List Value} (h : (Value.agg cs).cells.toList = l) : Value.agg cs = .agg l.toArray := by
  obtain ⟨c⟩ := cs
  have : c = l := by simpa [Value.cells] using h
  rw [this]
set_option maxRecDepth 100000 in
theorem t_arg (hv : Value.okWide Tryd.prog W .any b0 32 v) (h : DataW.Trod enc Tryd.prog W base spare held 32 v d ps) : ∃ K N G, v = .agg #[.int .i64 K, .int .i64 N, .int .i64 G] ∧ Gok G := by
  obtain ⟨cs, rfl, _⟩ := okWide_struct Tryd.underlying32 hv
  obtain ⟨fuel, hf⟩ := h
  obtain ⟨K, N, G, e, hG⟩ := t_of hf
  exact ⟨K, N, G, agg_list e, hG⟩
set_option maxRecDepth 100000 in
theorem a_arg (hv : Value.okWide Tryd.prog W .any b0 35 v) (h : DataW.Trod enc Tryd.prog W base spare held 35 v d ps) : ∃ (n : Int) (a : Option Addr) (T : List TV) (cap : Nat), v = .agg #[.int .i64 n, .slice a T.length cap] ∧ TIn W.heap.size W a T := by
  obtain ⟨cs, rfl, _⟩ := okWide_struct Tryd.underlying35 hv
  obtain ⟨fuel, hf⟩ := h
  obtain ⟨n, a, T, cap, e, hT⟩ := a_of hf
  exact ⟨n, a, T, cap, agg_list e, hT⟩
set_option maxRecDepth 100000 in
theorem p_arg (hv : Value.okWide Tryd.prog W .any b0 40 v) (h : DataW.Trod enc Tryd.prog W base spare held 40 v d ps) : ∃ (f o pn : Int) (a : Option Addr) (T : List TV) (cap : Nat) (x1 x2 x3 y1 y2 y3 e1 e2 e3 e4 : Int) (e5 : Option Addr) (e6 e7 : Nat) (e : ET), v = .agg #[.int .i64 f, .int .i64 o, .int .i64 pn, .slice a T.length cap, .int .i64 x1, .int .i64 x2, .int .i64 x3, .int .i64 y1, .int .i64 y2, .int .i64 y3, .int .i64 e1, .int .i64 e2, .int .i64 e3, .int .i64 e4, .slice e5 e6 e7] ∧ TIn W.heap.size W a T ∧ Gok x3 ∧ Gok y3 ∧ EIn W.heap.size W e ⟨e1, e2, e3, e4, e5, e6, e7⟩ := by
  obtain ⟨cs, rfl, _⟩ := okWide_struct Tryd.underlying40 hv
  obtain ⟨fuel, hf⟩ := h
  obtain ⟨f, o, pn, a, T, cap, x1, x2, x3, y1, y2, y3, e1, e2, e3, e4, e5, e6, e7, e, r, hT⟩ := p_of hf
  exact ⟨f, o, pn, a, T, cap, x1, x2, x3, y1, y2, y3, e1, e2, e3, e4, e5, e6, e7, e, agg_list r, hT⟩
set_option maxRecDepth 100000 in
theorem e_arg (hv : Value.okWide Tryd.prog W .any b0 38 v) (h : DataW.Trod enc Tryd.prog W base spare held 38 v d ps) : ∃ (d1 d2 d3 d4 : Int) (d5 : Option Addr) (d6 d7 : Nat) (e : ET), v = .agg #[.int .i64 d1, .int .i64 d2, .int .i64 d3, .int .i64 d4, .slice d5 d6 d7] ∧ EIn W.heap.size W e ⟨d1, d2, d3, d4, d5, d6, d7⟩ := by
  obtain ⟨cs, rfl, _⟩ := okWide_struct Tryd.underlying38 hv
  obtain ⟨fuel, hf⟩ := h
  obtain ⟨e, ⟨d1, d2, d3, d4, d5, d6, d7⟩, r, hE⟩ := e_of _ _ _ hf
  exact ⟨d1, d2, d3, d4, d5, d6, d7, e, agg_list r, hE⟩
end
end Go.Proofs.YtaglbeokecbihaaDoor
