/- The head of the statements of layer 12. -/
import Derived.Test.YtecijhaclbbccaaDoorLxI
namespace Go.Proofs.YtecijhaclbbccaaDoor
open Go.RowKit
set_option linter.unusedVariables false
set_option linter.unusedSimpArgs false

def TrueRet (w : World) (e : Ending) (w' : World) : Prop := e = .returned (.bool true) ∧ Below w.heap.size w w'
theorem head12_l : allM (bs ⟨#[112, 40, 88, 44, 34, 97, 34, 41, 46]⟩) = .ok [⟨1, ⟨#[112]⟩, 0, 0⟩, ⟨5, ⟨#[40]⟩, 0, 1⟩, ⟨2, ⟨#[88]⟩, 0, 2⟩, ⟨5, ⟨#[44]⟩, 0, 3⟩, ⟨4, ⟨#[97]⟩, 0, 4⟩, ⟨5, ⟨#[41]⟩, 0, 7⟩, ⟨5, ⟨#[46]⟩, 0, 8⟩, ⟨0, ⟨#[]⟩, 0, 9⟩] := by rfl
set_option maxRecDepth 100000 in
set_option maxHeartbeats 2000000 in
theorem head12_calls (w : World) (ht : SignTab w) : Calls Tryd.prog 8 #[] w (TrueRet w) := by
  have ca := all_calls ⟨#[112, 40, 88, 44, 34, 97, 34, 41, 46]⟩ w (by decide) ht
  rw [head12_l] at ca
  clear ht
  go_enter Tryd.func8, Tryd.ntmps8
  go_wp2_with fail
  refine ca.mono ?_
  rintro e w1 ⟨hb1, a1, c1, rfl, hr1⟩
  rcases hr1 with h | ⟨g, rfl, hg, hc⟩
  · cases h
  have h4 := hc 4 (by decide)
  have h7 := hc 7 (by decide)
  have f0 : w1.cell? ⟨g, 28, none⟩ = some (.int .i64 0) := h7.1
  have f1 : w1.cell? ⟨g, 29, none⟩ = some (.string ⟨#[]⟩) := h7.2.1
  have f2 : w1.cell? ⟨g, 30, none⟩ = some (.int .u64 0) := h7.2.2.1
  have f3 : w1.cell? ⟨g, 31, none⟩ = some (.int .i64 9) := h7.2.2.2
  have g0 : w1.cell? ⟨g, 16, none⟩ = some (.int .i64 4) := h4.1
  have g1 : w1.cell? ⟨g, 17, none⟩ = some (.string ⟨#[97]⟩) := h4.2.1
  have g3 : w1.cell? ⟨g, 19, none⟩ = some (.int .i64 4) := h4.2.2.2
  have B1 := Lib.hid hb1
  clear ca hb1 hc h4 h7
  simp only [List.length_cons, List.length_nil]
  go_wp2_with fail
  go_ret
  exact ⟨rfl, B1.out⟩
end Go.Proofs.YtecijhaclbbccaaDoor
