/- Loads of whole parts and expressions, under names that a walk does not open. Written by mkszz.py. -/
import Derived.Test.YtaglbeokecbihaaDoorSzW
import Derived.Deep.MidRow
namespace Go.Proofs.YtaglbeokecbihaaDoor
open Go.RowKit
set_option linter.unusedVariables false
set_option linter.unusedSimpArgs false

noncomputable def ldP (p : Value) : Sem Value := Instr.loadAt 59 p
theorem ldP_rule (p : Value) : Instr.loadAt 59 p = ldP p := rfl
noncomputable def ldE (p : Value) : Sem Value := Instr.loadAt 57 p
theorem ldE_rule (p : Value) : Instr.loadAt 57 p = ldE p := rfl
theorem s59 : (Tryd.prog.info? 59).map (·.size) = some 16 := by kernel_rfl
theorem s57 : (Tryd.prog.info? 57).map (·.size) = some 5 := by kernel_rfl
theorem row16 {w : World} {g o : Nat} {v0 v1 v2 v3 v4 v5 v6 v7 v8 v9 v10 v11 v12 v13 v14 v15 : Value} (f0 : w.cell? ⟨g, o, none⟩ = some v0) (f1 : w.cell? ⟨g, o + 1, none⟩ = some v1) (f2 : w.cell? ⟨g, o + 2, none⟩ = some v2) (f3 : w.cell? ⟨g, o + 3, none⟩ = some v3) (f4 : w.cell? ⟨g, o + 4, none⟩ = some v4) (f5 : w.cell? ⟨g, o + 5, none⟩ = some v5) (f6 : w.cell? ⟨g, o + 6, none⟩ = some v6) (f7 : w.cell? ⟨g, o + 7, none⟩ = some v7) (f8 : w.cell? ⟨g, o + 8, none⟩ = some v8) (f9 : w.cell? ⟨g, o + 9, none⟩ = some v9) (f10 : w.cell? ⟨g, o + 10, none⟩ = some v10) (f11 : w.cell? ⟨g, o + 11, none⟩ = some v11) (f12 : w.cell? ⟨g, o + 12, none⟩ = some v12) (f13 : w.cell? ⟨g, o + 13, none⟩ = some v13) (f14 : w.cell? ⟨g, o + 14, none⟩ = some v14) (f15 : w.cell? ⟨g, o + 15, none⟩ = some v15) : ∀ j u, [v0, v1, v2, v3, v4, v5, v6, v7, v8, v9, v10, v11, v12, v13, v14, v15][j]? = some u → w.cell? ⟨g, o + j, none⟩ = some u := by
  intro j u hu
  match j, hu with
  | 0, hu => cases hu; exact f0
  | 1, hu => cases hu; exact f1
  | 2, hu => cases hu; exact f2
  | 3, hu => cases hu; exact f3
  | 4, hu => cases hu; exact f4
  | 5, hu => cases hu; exact f5
  | 6, hu => cases hu; exact f6
  | 7, hu => cases hu; exact f7
  | 8, hu => cases hu; exact f8
  | 9, hu => cases hu; exact f9
  | 10, hu => cases hu; exact f10
  | 11, hu => cases hu; exact f11
  | 12, hu => cases hu; exact f12
  | 13, hu => cases hu; exact f13
  | 14, hu => cases hu; exact f14
  | 15, hu => cases hu; exact f15
  | j + 16, hu => simp at hu
theorem ldP_run {w : World} {g o : Nat} {v0 v1 v2 v3 v4 v5 v6 v7 v8 v9 v10 v11 v12 v13 v14 v15 : Value} (h : ∀ j u, [v0, v1, v2, v3, v4, v5, v6, v7, v8, v9, v10, v11, v12, v13, v14, v15][j]? = some u → w.cell? ⟨g, o + j, none⟩ = some u) : (ldP (.pointer (some ⟨g, o, none⟩))).run Tryd.prog w = .ok (.agg #[v0, v1, v2, v3, v4, v5, v6, v7, v8, v9, v10, v11, v12, v13, v14, v15]) w :=
  run_loadAt_mid w g o 59 [v0, v1, v2, v3, v4, v5, v6, v7, v8, v9, v10, v11, v12, v13, v14, v15] _ h Tryd.underlying59 rfl s59
theorem ldE_run {w : World} {g o : Nat} {v0 v1 v2 v3 v4 : Value} (h : ∀ j u, [v0, v1, v2, v3, v4][j]? = some u → w.cell? ⟨g, o + j, none⟩ = some u) : (ldE (.pointer (some ⟨g, o, none⟩))).run Tryd.prog w = .ok (.agg #[v0, v1, v2, v3, v4]) w :=
  run_loadAt_mid w g o 57 [v0, v1, v2, v3, v4] _ h Tryd.underlying57 rfl s57
theorem fsP {m : Nat} {W3 w' : World} {v0 v1 v2 v3 v4 v5 v6 v7 v8 v9 v10 v11 v12 v13 v14 v15 : Value} (hz : W3.heap[m]? = some (.cells #[v0, v1, v2, v3, v4, v5, v6, v7, v8, v9, v10, v11, v12, v13, v14, v15] 59 (0, 0))) (hb : Below W3.heap.size W3 w') : w'.cell? ⟨m, 0, none⟩ = some v0 ∧ (ldP (.pointer (some ⟨m, 0, none⟩))).run Tryd.prog w' = .ok (.agg #[v0, v1, v2, v3, v4, v5, v6, v7, v8, v9, v10, v11, v12, v13, v14, v15]) w' ∧ (ldE (.pointer (some ⟨m, 11, none⟩))).run Tryd.prog w' = .ok (.agg #[v11, v12, v13, v14, v15]) w' := by
  have hz' := (hb.block m (Array.getElem?_eq_some_iff.1 hz).1).trans hz
  refine ⟨cellAt (i := 0) hz' rfl, ldP_run (fun j u hu => ?_), ldE_run (fun j u hu => ?_)⟩
  · rw [Nat.zero_add]; exact cellAt hz' (by simpa using hu)
  · refine cellAt hz' ?_
    match j, hu with
    | 0, hu => exact hu
    | 1, hu => exact hu
    | 2, hu => exact hu
    | 3, hu => exact hu
    | 4, hu => exact hu
    | j + 5, hu => simp at hu
theorem ptrow_on {N : Nat} {w w' : World} {a : Option Addr} {l : List Pt} (h : PtRow N w a l) (hb : Below N w w') : PtRow N w' a l := by
  rcases id h with h0 | ⟨g, ha, hg, _⟩
  · exact .inl h0
  · refine .inr ⟨g, ha, hg, fun i hi => ?_⟩
    obtain ⟨g', v0, v1, v2, v3, v4, v5, v6, v7, v8, v9, v10, v11, v12, v13, v14, v15, ha', hv, hc⟩ := h.at hb hi
    obtain rfl : g = g' := by rw [ha] at ha'; simpa using ha'
    exact ⟨v0, v1, v2, v3, v4, v5, v6, v7, v8, v9, v10, v11, v12, v13, v14, v15, hv, hc⟩
theorem zS {m : Nat} {W3 w' : World} {j0 : Int} {PV XE : Value} (h : ∀ w', Below W3.heap.size W3 w' → w'.cell? ⟨m, 0, none⟩ = some (.int .i64 j0) ∧ (ldP (.pointer (some ⟨m, 0, none⟩))).run Tryd.prog w' = .ok PV w' ∧ (ldE (.pointer (some ⟨m, 11, none⟩))).run Tryd.prog w' = .ok XE w') (hb : Below W3.heap.size W3 w') : Below W3.heap.size W3 w' ∧ w'.cell? ⟨m, 0, none⟩ = some (.int .i64 j0) ∧ (ldP (.pointer (some ⟨m, 0, none⟩))).run Tryd.prog w' = .ok PV w' ∧ (ldE (.pointer (some ⟨m, 11, none⟩))).run Tryd.prog w' = .ok XE w' := ⟨hb, h w' hb⟩
theorem zC {m : Nat} {W3 w' w'' : World} {j0 : Int} {PV XE : Value} (h : ∀ w', Below W3.heap.size W3 w' → w'.cell? ⟨m, 0, none⟩ = some (.int .i64 j0) ∧ (ldP (.pointer (some ⟨m, 0, none⟩))).run Tryd.prog w' = .ok PV w' ∧ (ldE (.pointer (some ⟨m, 11, none⟩))).run Tryd.prog w' = .ok XE w') (k : Below W3.heap.size W3 w' ∧ w'.cell? ⟨m, 0, none⟩ = some (.int .i64 j0) ∧ (ldP (.pointer (some ⟨m, 0, none⟩))).run Tryd.prog w' = .ok PV w' ∧ (ldE (.pointer (some ⟨m, 11, none⟩))).run Tryd.prog w' = .ok XE w') (hb : Below w'.heap.size w' w'') : Below W3.heap.size W3 w'' ∧ w''.cell? ⟨m, 0, none⟩ = some (.int .i64 j0) ∧ (ldP (.pointer (some ⟨m, 0, none⟩))).run Tryd.prog w'' = .ok PV w'' ∧ (ldE (.pointer (some ⟨m, 11, none⟩))).run Tryd.prog w'' = .ok XE w'' := zS h (k.1.trans (hb.mono k.1.size))
end Go.Proofs.YtaglbeokecbihaaDoor
