/- What the rows' condition on the table of signs and on errors.errorType gives the walks; and that the door's own heap meets it. -/
import Derived.Test.YtecijhaclbbccaaDoorLxE
import Derived.ProofKit
import Derived.LaidMore
import Derived.OpenShut
import Derived.Stop.Joined
import Derived.Lib.LaidTab
import Derived.LaidHandle
namespace Go.Proofs.YtecijhaclbbccaaDoor
open Go.ChangeShapes Go.WideShapes Go.ChangeAt Go.RowKit
set_option linter.unusedVariables false

theorem own : ownKnob Tryd.prog.godebug = none := by kernel_rfl
theorem laidOut : laidOutB Tryd.prog = true := by kernel_rfl

/-- An array of strings that reads as the table holds the table's strings, cell for cell. -/
theorem cells_of_texts {H : Type} {enc : TypeId × Value → H} {P : Program} {w : World} {base : Nat} {sp : Nat → Bool} {held : Bool} {fuel : Nat} {t e : TypeId} {n : Nat} {cs : List Value} {zs : List (List UInt8)} {p : List MemPlace}
    (ht : P.underlying t = some (.array n e)) (he : P.underlying e = some .string) (hce : P.cellsOf e = 1)
    (h : DataW.trod enc P w base sp held fuel t cs = some (.agg (zs.map fun z => .lit (.string z)), p)) : ∀ i, i < n → cs[i]? = (zs[i]?).map fun z => Value.string ⟨z.toArray⟩ := by
  intro i hi
  obtain ⟨xs, m, _, hx, hl, hxl, hel⟩ := DataW.trod_array ht h
  have h1 := hel i hi
  simp only [Prod.mk.injEq, DataW.agg.injEq] at hx
  have hxi : xs[i]? = some (xs[i]'(by omega)) := List.getElem?_eq_getElem (by omega)
  rw [hxi] at h1
  obtain ⟨s, e1, e2, _⟩ := DataW.trod_string he h1
  rw [hce] at e1
  have e3 : cs[i]? = some (.string s) := by
    have := congrArg (·[0]?) e1
    simpa [List.getElem?_take, List.getElem?_drop] using this
  have e4 : (xs.map (·.1))[i]? = some (.lit (.string s.data.toList)) := by rw [List.getElem?_map, hxi, e2]; rfl
  rw [← hx.1, List.getElem?_map] at e4
  obtain ⟨z, hz, hz2⟩ := Option.map_eq_some_iff.1 e4
  simp only [DataW.lit.injEq, Lit.string.injEq] at hz2
  rw [e3, hz, hz2]; rfl

theorem gSigns : Tryd.prog.globalNamed "ergo/lex.signs" = some 1 := by kernel_rfl
theorem tSigns : (Tryd.prog.globals[1]?).map (·.type) = some 90 := by kernel_rfl
theorem gErrT : Tryd.prog.globalNamed "errors.errorType" = some 0 := by kernel_rfl
theorem cS : Tryd.prog.cellsOf 9 = 1 := by kernel_rfl
theorem rtT : (Tryd.prog.cutTypes.find? (·.1 == "internal/reflectlite.rtype")).map (·.2) = some 92 := by kernel_rfl
theorem oneRow : ((List.range 135).filter fun t => Tryd.prog.rowNamed t [101, 114, 114, 111, 114]) = [35] := by kernel_rfl
theorem nTypes : Tryd.prog.types.size = 135 := by kernel_rfl

/-- The variable errors.errorType, from the part of the condition on handles. -/
theorem errType_of {W : World} (h : handlesMet Tryd.prog [("errors.errorType", Rows.laid_errors_errorType)] W) : ErrType W := by
  obtain ⟨name, u, ty, e1, e2, e3, e4, e5⟩ := h _ (List.mem_singleton.2 rfl)
  have en : name = [101, 114, 114, 111, 114] := (Option.some.inj e1).symm
  subst en
  obtain rfl := Option.some.inj (rtT.symm.trans e2)
  have hm : ty ∈ (List.range 135).filter fun t => Tryd.prog.rowNamed t [101, 114, 114, 111, 114] := List.mem_filter.2 ⟨List.mem_range.2 (by rw [← nTypes]; exact e3), e4⟩
  rw [oneRow] at hm
  obtain rfl := List.mem_singleton.1 hm
  have hh : typeHandle Tryd.prog 35 = .pointer (some ⟨2, 35, none⟩) := by kernel_rfl
  rw [hh] at e5
  simpa [ErrType] using World.var?_cell gErrT e5 0

def laidSigns : List (String × DataW Unit) := [("ergo/lex.signs", Rows.laid_ergo_lex_signs)]
def laidLex : List (String × DataW Unit) := [("errors.errorType", Rows.laid_errors_errorType), ("ergo/lex.signs", Rows.laid_ergo_lex_signs)]
theorem signs_of_laid {W : World} (h : laidMetH Tryd.prog laidSigns W) : SignTab W := by
  rw [MakeChecks.laidMetH_plain _ _ _ (by kernel_rfl)] at h
  obtain ⟨ps, ⟨g0, t0, cs0, f0, p0, q0, hg0, ht0, hv0, hd0, _⟩, _, _⟩ := h
  obtain rfl := Option.some.inj (gSigns.symm.trans hg0)
  obtain rfl := Option.some.inj (tSigns.symm.trans ht0)
  have key := cells_of_texts (zs := signs) Tryd.underlying90 Tryd.underlying9 cS hd0
  intro i hi
  have k2 := key i hi
  have := World.var?_cell hg0 hv0 i
  rw [List.getElem?_eq_getElem (show i < signs.length from hi)] at k2
  unfold sgT sgB
  rw [List.getElem?_eq_getElem (show i < signs.length from hi)]
  simp only [Option.map_some] at k2
  rw [← Array.getElem?_toList] at this
  exact this.trans k2
theorem lex_of_laid {W : World} (h : laidMetH Tryd.prog laidLex W) : SignTab W ∧ ErrType W := by
  have h' : laidMet Tryd.prog [("ergo/lex.signs", Rows.laid_ergo_lex_signs)] W ∧ handlesMet Tryd.prog [("errors.errorType", Rows.laid_errors_errorType)] W := h
  obtain ⟨h1, h2⟩ := h'
  obtain ⟨ps, ⟨g0, t0, cs0, f0, p0, q0, hg0, ht0, hv0, hd0, _⟩, _, _⟩ := h1
  obtain rfl := Option.some.inj (gSigns.symm.trans hg0)
  obtain rfl := Option.some.inj (tSigns.symm.trans ht0)
  have key := cells_of_texts (zs := signs) Tryd.underlying90 Tryd.underlying9 cS hd0
  refine ⟨fun i hi => ?_, errType_of h2⟩
  have k2 := key i hi
  have := World.var?_cell hg0 hv0 i
  rw [List.getElem?_eq_getElem (show i < signs.length from hi)] at k2
  unfold sgT sgB
  rw [List.getElem?_eq_getElem (show i < signs.length from hi)]
  simp only [Option.map_some] at k2
  rw [← Array.getElem?_toList] at this
  exact this.trans k2
/-- The door's own heap meets the condition. -/
theorem door_signs (os : Os) (args : Array Value) : laidMetH Tryd.prog laidSigns ((World.doorLaid Tryd.prog 21 os).forCall (fun _ _ => 0) ⟨#[], args, []⟩).memory :=
  laidMetH_of_parts3 (fuel := 8) (laidMet_of_run' 8 (by kernel_rfl) (by kernel_rfl)) (by kernel_rfl) (by kernel_rfl)
theorem door_lex (os : Os) (args : Array Value) : laidMetH Tryd.prog laidLex ((World.doorLaid Tryd.prog 21 os).forCall (fun _ _ => 0) ⟨#[], args, []⟩).memory :=
  laidMetH_of_parts3 (fuel := 8) (laidMet_of_run' 8 (by kernel_rfl) (by kernel_rfl)) (by kernel_rfl) (by kernel_rfl)
end Go.Proofs.YtecijhaclbbccaaDoor
