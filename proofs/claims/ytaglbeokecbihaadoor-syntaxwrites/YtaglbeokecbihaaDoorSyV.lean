/- P.Part told whole; what the walk of SyntaxParts calls. Written by mksyv.py. -/
import Derived.Test.YtaglbeokecbihaaDoorSyN
import Derived.Test.YtaglbeokecbihaaDoorSyD
import Derived.Test.YtaglbeokecbihaaDoorSyJ
import Derived.Test.YtaglbeokecbihaaDoorSyK
import Derived.Test.YtaglbeokecbihaaDoorSyS
namespace Go.Proofs.YtaglbeokecbihaaDoor
open Go.RowKit
set_option linter.unusedVariables false
set_option linter.unusedSimpArgs false

def ptM (f o pn : Int) (T : List TV) (x1 x2 x3 y1 y2 y3 : Int) (e : ET) : Pt :=
  if uN f % 6 = 3 then .neg (predS (uN pn % 6)) (atomL T) else if uN f % 6 = 4 then .cmp (uN o % 6) (tmM x1 x2 x3) (tmM y1 y2 y3) else if uN f % 6 = 5 then .letx (varS (uN x2 % 6)) (xM e) else .pos (predS (uN pn % 6)) (atomL T)
def PartRet (w : World) (p : Pt) (e : Ending) (w' : World) : Prop := ∃ cs, e = .returned (.agg cs) ∧ PtV w'.heap.size w' p cs ∧ Below w.heap.size w w'
theorem atomL_len {T : List TV} (h : T.length ≤ 10) : (atomL T).length ≤ 1000 := by unfold atomL; split <;> simp; omega
theorem predS_100 (n : Nat) : (predS (n % 6)).size ≤ 100 := by have := predS_size (n % 6) (Nat.mod_lt _ (by omega)); omega
theorem varS_100 (n : Nat) : (varS (n % 6)).size ≤ 100 := by have := varS_size (n % 6) (Nat.mod_lt _ (by omega)); omega
theorem partOf_calls (f o pn : Int) (a : Option Addr) (T : List TV) (cap : Nat) (x1 x2 x3 y1 y2 y3 e1 e2 e3 e4 : Int) (e5 : Option Addr) (e6 e7 : Nat) (w : World) {B : Nat} (hB : B ≤ w.heap.size) (hT : TIn B w a T) (hl : T.length ≤ 10) {e : ET} (he : EIn B w e ⟨e1, e2, e3, e4, e5, e6, e7⟩) (hx : Gok x3) (hy : Gok y3) (hn : (xM e).nodes ≤ 40) : Calls Tryd.prog 17 #[.agg #[.int .i64 f, .int .i64 o, .int .i64 pn, .slice a T.length cap, .int .i64 x1, .int .i64 x2, .int .i64 x3, .int .i64 y1, .int .i64 y2, .int .i64 y3, .int .i64 e1, .int .i64 e2, .int .i64 e3, .int .i64 e4, .slice e5 e6 e7]] w (PartRet w (ptM f o pn T x1 x2 x3 y1 y2 y3 e)) := by
  unfold ptM
  by_cases h3 : uN f % 6 = 3
  · rw [if_pos h3]
    refine (part_neg f o pn a T cap x1 x2 x3 y1 y2 y3 e1 e2 e3 e4 e5 e6 e7 w h3 hB hT hl).mono fun e' w' h => ?_
    obtain ⟨av, cv, h1, h2, h4⟩ := h
    exact ⟨_, h1, ⟨av, cv, rfl, h2.into, predS_100 _, atomL_len hl⟩, h4⟩
  rw [if_neg h3]
  by_cases h4 : uN f % 6 = 4
  · rw [if_pos h4]
    refine (part_cmp f o pn a T cap x1 x2 x3 y1 y2 y3 e1 e2 e3 e4 e5 e6 e7 w h4).mono fun e' w' h => ?_
    exact ⟨_, h.1, ⟨rfl, Nat.mod_lt _ (by omega), tmM_ok _ _ _ hx.1 hx.2, tmM_ok _ _ _ hy.1 hy.2⟩, h.2⟩
  rw [if_neg h4]
  by_cases h5 : uN f % 6 = 5
  · rw [if_pos h5]
    refine (part_let f o pn a T cap x1 x2 x3 y1 y2 y3 e1 e2 e3 e4 e5 e6 e7 w h5 hB he).mono fun e' w' h => ?_
    obtain ⟨k1, k2, k3, k4, k5, k6, k7, h1, h2, h6⟩ := h
    have hlen := exprB_len h2.into
    exact ⟨_, h1, ⟨k1, k2, k3, k4, k5, k6, k7, rfl, h2.into, varS_100 _, by omega⟩, h6⟩
  rw [if_neg h5]
  refine (part_pos f o pn a T cap x1 x2 x3 y1 y2 y3 e1 e2 e3 e4 e5 e6 e7 w ⟨h3, h4, h5⟩ hB hT hl).mono fun e' w' h => ?_
  obtain ⟨av, cv, h1, h2, h4⟩ := h
  exact ⟨_, h1, ⟨av, cv, rfl, h2.into, predS_100 _, atomL_len hl⟩, h4⟩
theorem lawPart_calls {N : Nat} {p : Pt} {cs : Array Value} {w : World} (h : PtV N w p cs) (hN : N ≤ w.heap.size) (hs : STab w) : Calls Tryd.prog 19 #[.agg cs] w (StrRet w (partT p)) := by
  cases p with
  | pos pred l => obtain ⟨a, c, rfl, h2, h3, h4⟩ := h; exact lawPart_pos pred a l c N w hN h2 hs h3 h4
  | neg pred l => obtain ⟨a, c, rfl, h2, h3, h4⟩ := h; exact lawPart_neg pred a l c N w hN h2 hs h3 h4
  | cmp op ta tb => obtain ⟨rfl, h2, h3, h4⟩ := h; exact lawPart_cmp op h2 ta tb h3 h4 w hs
  | letx nm x => obtain ⟨k1, k2, k3, k4, k5, k6, k7, rfl, h2, h3, h4⟩ := h; exact lawPart_let nm h3 h2 hN hs (by omega)
end Go.Proofs.YtaglbeokecbihaaDoor
