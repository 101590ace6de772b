/- What the rows' condition on the package-level variables gives the walks of the syntax; and that the door's own heap meets it. -/
import Derived.Test.YtaglbeokecbihaaDoorSy1
import Derived.ProofKit
import Derived.LaidMore
import Derived.OpenShut
import Derived.Stop.Joined
import Derived.Stop.LaidErr
import Derived.Lib.LaidTab
import Derived.LaidHandle
namespace Go.Proofs.YtaglbeokecbihaaDoor
open Go.ChangeShapes Go.WideShapes Go.ChangeAt Go.RowKit
set_option linter.unusedVariables false

theorem own : ownKnob Tryd.prog.godebug = none := by kernel_rfl
theorem laidOut : laidOutB Tryd.prog = true := by kernel_rfl

/-- An array of strings that reads as the table holds the table's strings, cell for cell. -/
theorem cells_of_texts {H : Type} {enc : TypeId × Value → H} {P : Program} {w : World} {base : Nat} {sp : Nat → Bool} {held : Bool} {fuel : Nat} {t e : TypeId} {n : Nat} {cs : List Value} {zs : List (List UInt8)} {p : List MemPlace}
    (ht : P.underlying t = some (.array n e)) (he : P.underlying e = some .string) (hce : P.cellsOf e = 1)
    (h : DataW.trod enc P w base sp held fuel t cs = some (.agg (zs.map fun z => .lit (.string z)), p)) : ∀ i, i < n → cs[i]? = (zs[i]?).map fun z => Value.string ⟨z.toArray⟩ := by
  intro i hi
  obtain ⟨xs, m, _, hx, hl, hxl, hel⟩ := DataW.trod_array ht h
  have h1 := hel i hi
  simp only [Prod.mk.injEq, DataW.agg.injEq] at hx
  have hxi : xs[i]? = some (xs[i]'(by omega)) := List.getElem?_eq_getElem (by omega)
  rw [hxi] at h1
  obtain ⟨s, e1, e2, _⟩ := DataW.trod_string he h1
  rw [hce] at e1
  have e3 : cs[i]? = some (.string s) := by
    have := congrArg (·[0]?) e1
    simpa [List.getElem?_take, List.getElem?_drop] using this
  have e4 : (xs.map (·.1))[i]? = some (.lit (.string s.data.toList)) := by rw [List.getElem?_map, hxi, e2]; rfl
  rw [← hx.1, List.getElem?_map] at e4
  obtain ⟨z, hz, hz2⟩ := Option.map_eq_some_iff.1 e4
  simp only [DataW.lit.injEq, Lit.string.injEq] at hz2
  rw [e3, hz, hz2]; rfl

def laidSy : List (String × DataW Unit) := [("math/bits.deBruijn32tab", Rows.laid_math_bits_deBruijn32tab), ("math/bits.deBruijn64tab", Rows.laid_math_bits_deBruijn64tab), ("internal/strconv.uint64pow10", Rows.laid_internal_strconv_uint64pow10), ("ergo/arith.signs", Rows.laid_ergo_arith_signs), ("ergo/column.signs", Rows.laid_ergo_column_signs), ("ergo/group.words", Rows.laid_ergo_group_words)]
theorem cS : Tryd.prog.cellsOf 9 = 1 := by kernel_rfl
theorem gCol : Tryd.prog.globalNamed "ergo/column.signs" = some 0 := by kernel_rfl
theorem tCol : (Tryd.prog.globals[0]?).map (·.type) = some 112 := by kernel_rfl
theorem uCol : Tryd.prog.underlying 112 = some (.array 6 9) := by kernel_rfl
theorem gAri : Tryd.prog.globalNamed "ergo/arith.signs" = some 1 := by kernel_rfl
theorem tAri : (Tryd.prog.globals[1]?).map (·.type) = some 114 := by kernel_rfl
theorem uAri : Tryd.prog.underlying 114 = some (.array 5 9) := by kernel_rfl
theorem gWrd : Tryd.prog.globalNamed "ergo/group.words" = some 2 := by kernel_rfl
theorem tWrd : (Tryd.prog.globals[2]?).map (·.type) = some 114 := by kernel_rfl
theorem gPow : Tryd.prog.globalNamed "internal/strconv.uint64pow10" = some 3 := by kernel_rfl
theorem tPow : (Tryd.prog.globals[3]?).map (·.type) = some 127 := by kernel_rfl
theorem gB64 : Tryd.prog.globalNamed "math/bits.deBruijn64tab" = some 5 := by kernel_rfl
theorem u9 : Tryd.prog.underlying 9 = some .string := by kernel_rfl
theorem pow_is : (Rows.laid_internal_strconv_uint64pow10 : DataW Unit) = Lib.tabData .u64 Lib.pow10Tab := by rfl

/-- A listed table of strings, from the head of the list. -/
theorem texts_of_head {W : World} {name : String} {d : DataW Unit} {rest : List (String × DataW Unit)} {zs : List (List UInt8)} {g t n : Nat}
    (hg : Tryd.prog.globalNamed name = some g) (ht : (Tryd.prog.globals[g]?).map (·.type) = some t) (hu : Tryd.prog.underlying t = some (.array n 9)) (hd : d = .agg (zs.map fun z => .lit (.string z))) (hz : n = zs.length)
    (h : laidMet Tryd.prog ((name, d) :: rest) W) : ∀ i, i < n → W.cell? ⟨g, i, none⟩ = some (.string ⟨(zs.getD i []).toArray⟩) := by
  subst hd
  obtain ⟨ps, ⟨g0, t0, cs0, f0, p0, q0, hg0, ht0, hv0, hd0, _⟩, _⟩ := h
  obtain rfl := Option.some.inj (hg.symm.trans hg0)
  obtain rfl := Option.some.inj (ht.symm.trans ht0)
  have key := cells_of_texts (zs := zs) hu u9 cS hd0
  intro i hi
  have k2 := key i hi
  have := World.var?_cell hg hv0 i
  have hzi : zs[i]? = some (zs.getD i []) := by
    rw [List.getD_eq_getElem?_getD, List.getElem?_eq_getElem (by omega)]; rfl
  rw [hzi] at k2
  rw [← Array.getElem?_toList] at this
  exact this.trans k2
theorem below6 {W : World} (h : Lib.TabIs Tryd.prog W "internal/strconv.uint64pow10" .u64 Lib.pow10Tab) : Lib.TabBelow Tryd.prog 6 W "internal/strconv.uint64pow10" .u64 Lib.pow10Tab := fun w' hb => by
  unfold Lib.TabIs World.var? at *
  simp only [gPow, Option.bind_some] at h ⊢
  rw [hb.block 3 (by omega)]
  exact h
theorem stab_of_laid {W : World} (h : laidMetH Tryd.prog laidSy W) : STab W := by
  rw [MakeChecks.laidMetH_plain _ _ _ (by kernel_rfl)] at h
  have h1 := h.tail
  have h2 := h1.tail
  have h3 := h2.tail
  have h4 := h3.tail
  have h5 := h4.tail
  refine ⟨texts_of_head (zs := colL) gCol tCol uCol rfl rfl h4, texts_of_head (zs := ariL) gAri tAri uAri rfl rfl h3, texts_of_head (zs := wrdL) gWrd tWrd uAri rfl rfl h5, below6 ?_, ?_⟩
  · rw [pow_is] at h2
    exact Lib.tabIs_of_head (e := 120) (n := 20) gPow tPow (by kernel_rfl) (by kernel_rfl) (by kernel_rfl) (by kernel_rfl) h2
  · obtain ⟨ps, ⟨g0, t0, cs0, f0, p0, q0, hg0, ht0, hv0, hd0, _⟩, _⟩ := h1
    obtain rfl := Option.some.inj (gB64.symm.trans hg0)
    rcases Nat.lt_or_ge 5 W.heap.size with h9 | h9
    · exact h9
    · unfold World.var? at hv0
      rw [gB64] at hv0
      simp [Array.getElem?_eq_none h9] at hv0
/-- The door's own heap meets the condition. -/
theorem door_sy (os : Os) (args : Array Value) : laidMetH Tryd.prog laidSy ((World.doorLaid Tryd.prog 39 os).forCall (fun _ _ => 0) ⟨#[], args, []⟩).memory :=
  laidMetH_of_parts3 (fuel := 8) (laidMet_of_run' 8 (by kernel_rfl) (by kernel_rfl)) (by kernel_rfl) (by kernel_rfl)
end Go.Proofs.YtaglbeokecbihaaDoor
