/- R.Rule, told whole; what SyntaxVars calls in its rounds. Written by mkszx.py. -/
import Derived.Test.YtaglbeokecbihaaDoorSzF
import Derived.Test.YtaglbeokecbihaaDoorSzT
import Derived.Test.YtaglbeokecbihaaDoorSzV
import Derived.Test.YtaglbeokecbihaaDoorSzN
import Derived.Test.YtaglbeokecbihaaDoorSyN
namespace Go.Proofs.YtaglbeokecbihaaDoor
open Go.RowKit
set_option linter.unusedVariables false
set_option linter.unusedSimpArgs false

def agM (agg : Int) : Int := if 1 ≤ bits .and .i64 agg 15 ∧ bits .and .i64 agg 15 ≤ 4 then bits .and .i64 agg 15 else 0
def headL (agg : Int) (T : List TV) : List Tm := if 1 ≤ bits .and .i64 agg 15 ∧ bits .and .i64 agg 15 ≤ 4 then (if (tmAt (atomL T) ((atomL T).length - 1)).kind = 0 then atomL T else setLast (atomL T)) else atomL T
theorem headL_len (agg : Int) {T : List TV} (h : T.length ≤ 6) : 1 ≤ (headL agg T).length ∧ (headL agg T).length ≤ 6 := by
  have h1 : 1 ≤ (atomL T).length ∧ (atomL T).length ≤ 6 := by
    unfold atomL
    split
    · simp
    · rename_i h0; rw [List.length_map]; exact ⟨List.length_pos_iff.2 h0, h⟩
  unfold headL
  split
  · split
    · exact h1
    · rw [setLast_len h1.1]; exact h1
  · exact h1
theorem rule_calls {B : Nat} {w : World} {r : RT} {cs : List Value} (h : RC B w r cs) (hB : B ≤ w.heap.size) (hf : fewR r) : Calls Tryd.prog 23 #[.agg cs.toArray] w (RuleRet w (predS (uN r.hd % 6)) (headL r.agg r.T) (agM r.agg) (r.body.map ptT)) := by
  obtain ⟨a, c, b, d, rfl, hT, hR⟩ := h
  obtain ⟨f1, f2, f3⟩ := hf
  unfold headL agM
  by_cases hk : 1 ≤ bits .and .i64 r.agg 15 ∧ bits .and .i64 r.agg 15 ≤ 4
  · rw [if_pos hk, if_pos hk]
    by_cases hl : (tmAt (atomL r.T) ((atomL r.T).length - 1)).kind = 0
    · rw [if_pos hl]
      exact rule_same r.hd a r.T c r.agg b r.body d B w hB hT f1 hR f2 f3 hk hl
    · rw [if_neg hl]
      exact rule_set r.hd a r.T c r.agg b r.body d B w hB hT f1 hR f2 f3 hk hl
  · rw [if_neg hk, if_neg hk]
    exact rule_no r.hd a r.T c r.agg b r.body d B w hB hT f1 hR f2 f3 (by omega)
theorem ptT_nodes {p : PT} (h : fewP p) {nm : ByteArray} {x : X} (e : ptT p = .letx nm x) : x.nodes ≤ 1000 := by
  have hn : (xM p.e).nodes ≤ 40 := Nat.le_trans (cnt_nodes p.e 0 h.2) h.2
  unfold ptT ptM at e
  split at e
  · cases e
  · split at e
    · cases e
    · split at e
      · cases e; omega
      · cases e
theorem pt_form {N : Nat} {w : World} {p : Pt} {j0 : Int} {v1 v2 v3 v4 v5 v6 v7 v8 v9 v10 v11 v12 v13 v14 v15 : Value} (h : PtV N w p #[.int .i64 j0, v1, v2, v3, v4, v5, v6, v7, v8, v9, v10, v11, v12, v13, v14, v15]) (hp : ¬ ∃ nm x, p = .letx nm x) : j0 = 0 ∨ j0 = 1 ∨ j0 = 2 := by
  cases p with
  | pos pred l => obtain ⟨a, c, hcs, _⟩ := h; have h9 := congrArg Array.toList hcs; simp only [List.cons.injEq, Value.int.injEq, and_true, true_and] at h9; exact .inl h9.1
  | neg pred l => obtain ⟨a, c, hcs, _⟩ := h; have h9 := congrArg Array.toList hcs; simp only [List.cons.injEq, Value.int.injEq, and_true, true_and] at h9; exact .inr (.inl h9.1)
  | cmp op ta tb => obtain ⟨hcs, _⟩ := h; have h9 := congrArg Array.toList hcs; simp only [List.cons.injEq, Value.int.injEq, and_true, true_and] at h9; exact .inr (.inr h9.1)
  | letx nm x => exact absurd ⟨nm, x, rfl⟩ hp
theorem pbS {m : Nat} {W3 w' : World} {y0 y1 y2 y3 y4 y5 y6 y7 y8 y9 y10 y11 y12 y13 y14 y15 : Value} (hz : W3.heap[m]? = some (.cells #[y0, y1, y2, y3, y4, y5, y6, y7, y8, y9, y10, y11, y12, y13, y14, y15] 59 (0, 0))) (hb : Below W3.heap.size W3 w') : Below W3.heap.size W3 w' ∧ w'.cell? ⟨m, 0, none⟩ = some (y0) ∧ w'.cell? ⟨m, 1, none⟩ = some (y1) ∧ w'.cell? ⟨m, 2, none⟩ = some (y2) ∧ w'.cell? ⟨m, 3, none⟩ = some (y3) ∧ w'.cell? ⟨m, 4, none⟩ = some (y4) ∧ w'.cell? ⟨m, 5, none⟩ = some (y5) ∧ w'.cell? ⟨m, 6, none⟩ = some (y6) ∧ w'.cell? ⟨m, 7, none⟩ = some (y7) ∧ w'.cell? ⟨m, 8, none⟩ = some (y8) ∧ w'.cell? ⟨m, 9, none⟩ = some (y9) ∧ w'.cell? ⟨m, 10, none⟩ = some (y10) ∧ w'.cell? ⟨m, 11, none⟩ = some (y11) ∧ w'.cell? ⟨m, 12, none⟩ = some (y12) ∧ w'.cell? ⟨m, 13, none⟩ = some (y13) ∧ w'.cell? ⟨m, 14, none⟩ = some (y14) ∧ w'.cell? ⟨m, 15, none⟩ = some (y15) :=
  have hz' := (hb.block m (Array.getElem?_eq_some_iff.1 hz).1).trans hz
  ⟨hb, cellAt (i := 0) hz' rfl, cellAt (i := 1) hz' rfl, cellAt (i := 2) hz' rfl, cellAt (i := 3) hz' rfl, cellAt (i := 4) hz' rfl, cellAt (i := 5) hz' rfl, cellAt (i := 6) hz' rfl, cellAt (i := 7) hz' rfl, cellAt (i := 8) hz' rfl, cellAt (i := 9) hz' rfl, cellAt (i := 10) hz' rfl, cellAt (i := 11) hz' rfl, cellAt (i := 12) hz' rfl, cellAt (i := 13) hz' rfl, cellAt (i := 14) hz' rfl, cellAt (i := 15) hz' rfl⟩
theorem pbC {m : Nat} {W3 w' w'' : World} {y0 y1 y2 y3 y4 y5 y6 y7 y8 y9 y10 y11 y12 y13 y14 y15 : Value} (hz : W3.heap[m]? = some (.cells #[y0, y1, y2, y3, y4, y5, y6, y7, y8, y9, y10, y11, y12, y13, y14, y15] 59 (0, 0))) (h : Below W3.heap.size W3 w' ∧ w'.cell? ⟨m, 0, none⟩ = some (y0) ∧ w'.cell? ⟨m, 1, none⟩ = some (y1) ∧ w'.cell? ⟨m, 2, none⟩ = some (y2) ∧ w'.cell? ⟨m, 3, none⟩ = some (y3) ∧ w'.cell? ⟨m, 4, none⟩ = some (y4) ∧ w'.cell? ⟨m, 5, none⟩ = some (y5) ∧ w'.cell? ⟨m, 6, none⟩ = some (y6) ∧ w'.cell? ⟨m, 7, none⟩ = some (y7) ∧ w'.cell? ⟨m, 8, none⟩ = some (y8) ∧ w'.cell? ⟨m, 9, none⟩ = some (y9) ∧ w'.cell? ⟨m, 10, none⟩ = some (y10) ∧ w'.cell? ⟨m, 11, none⟩ = some (y11) ∧ w'.cell? ⟨m, 12, none⟩ = some (y12) ∧ w'.cell? ⟨m, 13, none⟩ = some (y13) ∧ w'.cell? ⟨m, 14, none⟩ = some (y14) ∧ w'.cell? ⟨m, 15, none⟩ = some (y15)) (hb : Below w'.heap.size w' w'') : Below W3.heap.size W3 w'' ∧ w''.cell? ⟨m, 0, none⟩ = some (y0) ∧ w''.cell? ⟨m, 1, none⟩ = some (y1) ∧ w''.cell? ⟨m, 2, none⟩ = some (y2) ∧ w''.cell? ⟨m, 3, none⟩ = some (y3) ∧ w''.cell? ⟨m, 4, none⟩ = some (y4) ∧ w''.cell? ⟨m, 5, none⟩ = some (y5) ∧ w''.cell? ⟨m, 6, none⟩ = some (y6) ∧ w''.cell? ⟨m, 7, none⟩ = some (y7) ∧ w''.cell? ⟨m, 8, none⟩ = some (y8) ∧ w''.cell? ⟨m, 9, none⟩ = some (y9) ∧ w''.cell? ⟨m, 10, none⟩ = some (y10) ∧ w''.cell? ⟨m, 11, none⟩ = some (y11) ∧ w''.cell? ⟨m, 12, none⟩ = some (y12) ∧ w''.cell? ⟨m, 13, none⟩ = some (y13) ∧ w''.cell? ⟨m, 14, none⟩ = some (y14) ∧ w''.cell? ⟨m, 15, none⟩ = some (y15) :=
  pbS hz (h.1.trans (hb.mono h.1.size))
theorem so_low {L M : Nat} {w : World} {v : Value} {ts : List ByteArray} (h : SO L w v ts) (hL : M ≤ L) : SO M w v ts := h.mono hL
theorem tin_mono {B B' : Nat} {w : World} {a : Option Addr} {T : List TV} (h : TIn B w a T) (hB : B ≤ B') : TIn B' w a T := ⟨h.ok, by
  rcases h.cells with h0 | ⟨g, off, ha, hg, hc⟩
  · exact .inl h0
  · exact .inr ⟨g, off, ha, by omega, hc⟩⟩
theorem ein_mono {B B' : Nat} {w : World} (hB : B ≤ B') : ∀ {e : ET} {v : EV}, EIn B w e v → EIn B' w e v
  | .none _ _ _ _, _, h => h
  | .one _ _ _ _ _, _, ⟨h1, h2, b, off, va, h3, h4, h5, h6⟩ => ⟨h1, h2, b, off, va, h3, Nat.lt_of_lt_of_le h4 hB, h5, ein_mono hB h6⟩
  | .two _ _ _ _ _ _, _, ⟨h1, h2, b, off, va, vb, h3, h4, h5, h6, h7, h8⟩ => ⟨h1, h2, b, off, va, vb, h3, Nat.lt_of_lt_of_le h4 hB, h5, h6, ein_mono hB h7, ein_mono hB h8⟩
theorem pc_mono {B B' : Nat} {w : World} {p : PT} {cs : List Value} (h : PC B w p cs) (hB : B ≤ B') : PC B' w p cs := by
  obtain ⟨a, cap, e1, e2, e3, e4, e5, e6, e7, h1, h2, h3, h4, h5⟩ := h
  exact ⟨a, cap, e1, e2, e3, e4, e5, e6, e7, h1, tin_mono h2 hB, h3, h4, ein_mono hB h5⟩
theorem pin_mono {B B' : Nat} {w : World} {a : Option Addr} {ps : List PT} (h : PIn B w a ps) (hB : B ≤ B') : PIn B' w a ps := by
  rcases h with h0 | ⟨b, off, ha, hlt, hc⟩
  · exact .inl h0
  · refine .inr ⟨b, off, ha, by omega, fun i hi => ?_⟩
    obtain ⟨cs, h1, h2⟩ := hc i hi
    exact ⟨cs, pc_mono h1 hB, h2⟩
theorem rin_one {B : Nat} {W : World} {r : RT} {x0 x1 x2 x3 : Value} (h : RC B W r [x0, x1, x2, x3]) {H : Nat} (hH : W.heap.size = H) (hBH : B ≤ H) : RIn (H + 1) (W.alloc (.cells #[x0, x1, x2, x3] 67)) (some ⟨H, 0, none⟩) [r] := by
  subst hH
  have ba := (Below.refl W.heap.size W).alloc (Nat.le_refl _) (.cells #[x0, x1, x2, x3] 67)
  have z := box16 W #[x0, x1, x2, x3] 67
  refine .inr ⟨W.heap.size, 0, rfl, by omega, fun i hi => ?_⟩
  obtain rfl : i = 0 := by simpa using hi
  refine ⟨[x0, x1, x2, x3], ?_, fun j u hu => ?_⟩
  · have h2 := h.on (ba.mono hBH)
    obtain ⟨a, c, b, d, e, hT, hP⟩ := h2
    exact ⟨a, c, b, d, e, tin_mono hT (by omega), pin_mono hP (by omega)⟩
  · rw [Nat.zero_mul, Nat.add_zero, Nat.zero_add]
    exact cellAt z (by simpa using hu)
end Go.Proofs.YtaglbeokecbihaaDoor
