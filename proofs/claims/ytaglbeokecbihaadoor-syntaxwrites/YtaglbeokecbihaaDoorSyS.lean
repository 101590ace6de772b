/- What the walks are told of an atom and of a part that came in. -/
import Derived.Test.YtaglbeokecbihaaDoorSyR
namespace Go.Proofs.YtaglbeokecbihaaDoor
open Go.ChangeShapes Go.WideShapes Go.Deep Go.RowKit
set_option linter.unusedVariables false
set_option linter.unusedSimpArgs false

theorem ce40 : Tryd.prog.cellsOf 40 = 15 := by kernel_rfl
section
variable {H : Type} {enc : TypeId × Value → H} {W : World} {base : Nat} {spare : Nat → Bool} {held : Bool}
set_option maxRecDepth 100000 in
theorem a_of {fuel : Nat} {cs : List Value} {x : DataW H × List MemPlace} (h : DataW.trod enc Tryd.prog W base spare held fuel 35 cs = some x) : ∃ (n : Int) (a : Option Addr) (T : List TV) (cap : Nat), cs = [.int .i64 n, .slice a T.length cap] ∧ TIn W.heap.size W a T := by
  obtain ⟨xs, k, hk, _, hl, hxl, hf⟩ := DataW.trod_struct Tryd.underlying35 h
  have g0 := hf 0 _ rfl
  have g1 := hf 1 _ rfl
  rw [ce35] at hl
  match xs, hxl, cs, hl with
  | [q0, q1], _, [v0, v1], _ =>
    have c3 := ce3
    have c33 := ce33
    simp [c3, c33] at g0 g1
    obtain ⟨n, e0, _⟩ := DataW.trod_int Tryd.underlying3 g0
    obtain ⟨a, T, cap, e1, hT⟩ := ts_of g1
    simp only [List.cons.injEq, and_true] at e0 e1
    exact ⟨n, a, T, cap, by rw [e0, e1], hT⟩
set_option maxRecDepth 100000 in
theorem p_of {fuel : Nat} {cs : List Value} {x : DataW H × List MemPlace} (h : DataW.trod enc Tryd.prog W base spare held fuel 40 cs = some x) : ∃ (f o pn : Int) (a : Option Addr) (T : List TV) (cap : Nat) (x1 x2 x3 y1 y2 y3 e1 e2 e3 e4 : Int) (e5 : Option Addr) (e6 e7 : Nat) (e : ET), cs = [.int .i64 f, .int .i64 o, .int .i64 pn, .slice a T.length cap, .int .i64 x1, .int .i64 x2, .int .i64 x3, .int .i64 y1, .int .i64 y2, .int .i64 y3, .int .i64 e1, .int .i64 e2, .int .i64 e3, .int .i64 e4, .slice e5 e6 e7] ∧ TIn W.heap.size W a T ∧ Gok x3 ∧ Gok y3 ∧ EIn W.heap.size W e ⟨e1, e2, e3, e4, e5, e6, e7⟩ := by
  obtain ⟨xs, k, hk, _, hl, hxl, hf⟩ := DataW.trod_struct Tryd.underlying40 h
  have g0 := hf 0 _ rfl
  have g1 := hf 1 _ rfl
  have g2 := hf 2 _ rfl
  have g3 := hf 3 _ rfl
  have g4 := hf 4 _ rfl
  have g5 := hf 5 _ rfl
  rw [ce40] at hl
  match xs, hxl, cs, hl with
  | [q0, q1, q2, q3, q4, q5], _, [v0, v1, v2, v3, v4, v5, v6, v7, v8, v9, v10, v11, v12, v13, v14], _ =>
    have c3 := ce3
    have c32 := ce32
    have c35 := ce35
    have c38 := ce38
    simp [c3, c32, c35, c38] at g0 g1 g2 g3 g4 g5
    obtain ⟨f, r0, _⟩ := DataW.trod_int Tryd.underlying3 g0
    obtain ⟨o, r1, _⟩ := DataW.trod_int Tryd.underlying3 g1
    obtain ⟨pn, a, T, cap, r2, hT⟩ := a_of g2
    obtain ⟨x1, x2, x3, r3, hx⟩ := t_of g3
    obtain ⟨y1, y2, y3, r4, hy⟩ := t_of g4
    obtain ⟨e, v, r5, hE⟩ := e_of _ _ _ g5
    obtain ⟨e1, e2, e3, e4, e5, e6, e7⟩ := v
    simp only [EV.cells, List.cons.injEq, and_true] at r0 r1 r2 r3 r4 r5
    subst r0 r1
    obtain ⟨rfl, rfl⟩ := r2
    obtain ⟨rfl, rfl, rfl⟩ := r3
    obtain ⟨rfl, rfl, rfl⟩ := r4
    obtain ⟨rfl, rfl, rfl, rfl, rfl⟩ := r5
    exact ⟨_, _, _, a, T, cap, _, _, _, _, _, _, _, _, _, _, _, _, _, e, rfl, hT, hx, hy, hE⟩
end
end Go.Proofs.YtaglbeokecbihaaDoor
