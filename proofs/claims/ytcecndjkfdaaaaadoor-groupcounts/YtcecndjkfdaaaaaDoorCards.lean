/-
  DERIVED. GIVEN WITH THE SEED: THE CARDS: each row of YtcecndjkfdaaaaaDoorRows.lean that lists a variable, with what it lists TIED to the program's text (the seventh form; the later family's looks); each row that meets fmt, with fmt's text TOLD by the authors' own Lean function (tested against real Go, not proved from fmt's source: count such statements apart). THE CARD IS WHAT COUNTS. Prove the row's statement (the work); the ties are given (YtcecndjkfdaaaaaDoorTie.lean); close each card by the builder's one call (the guide's Derived/Test/ToyasCard.lean, 'card_holds'). Laid BY PROGRAM, IN A SANDBOX (cutbox-door.mjs). By AI agents, Wed Nov 11 2026. No macro, syntax, notation, axiom, sorry.
-/
import Derived.Test.YtcecndjkfdaaaaaDoorRows
import GoSem.ClaimSeven
namespace Go.Proofs.YtcecndjkfdaaaaaDoor
namespace Rows

/-- THE TIED CARD OF 'ergolaw09.GroupMakes'. -/
def groupMakesCard : Claim7 := { stood := { row := groupMakesRow, standIns := [], harness := (true, "ade0c979e6d032e32f334a55ea78064ccb40259231ef26ae2c0251339bbbe21f"), looks := false }, kinds := [], alts := [], laidByText := true, laidKinds := [.data], laidTests := true, laidLooks := .later }
def GroupMakesCardSaid : Prop := Claim7.holds Tryd.pinned (.plain (OpenSpec.ofChange groupMakesSpec)) groupMakesCard

/-- THE TIED CARD OF 'ergolaw09.GroupBy'. -/
def groupByCard : Claim7 := { stood := { row := groupByRow, standIns := [], harness := (true, "ade0c979e6d032e32f334a55ea78064ccb40259231ef26ae2c0251339bbbe21f"), looks := false }, kinds := [], alts := [], laidByText := true, laidKinds := [.data], laidTests := true, laidLooks := .later }
def GroupByCardSaid : Prop := Claim7.holds Tryd.pinned (.plain (OpenSpec.ofChange groupBySpec)) groupByCard

/-- THE TIED CARD OF 'ergolaw09.GroupCounts'. -/
def groupCountsCard : Claim7 := { stood := { row := groupCountsRow, standIns := [], harness := (true, "ade0c979e6d032e32f334a55ea78064ccb40259231ef26ae2c0251339bbbe21f"), looks := false }, kinds := [], alts := [], laidByText := true, laidKinds := [.data], laidTests := true, laidLooks := .later }
def GroupCountsCardSaid : Prop := Claim7.holds Tryd.pinned (.plain (OpenSpec.ofChange groupCountsSpec)) groupCountsCard

/-- THE SECOND FORM's CARD OF 'ergolaw09.GroupMakes'. -/
def groupMakesUptoCard : Claim7 := { stood := { row := groupMakesUptoRow, standIns := [], harness := (true, "ade0c979e6d032e32f334a55ea78064ccb40259231ef26ae2c0251339bbbe21f"), looks := false }, kinds := [], alts := [], laidByText := true, laidKinds := [.data], laidTests := true, laidLooks := .later }
def GroupMakesUptoCardSaid : Prop := Claim7.holds Tryd.pinned (.plain (OpenSpec.upto groupMakesSpec)) groupMakesUptoCard

/-- THE SECOND FORM's CARD OF 'ergolaw09.GroupBy'. -/
def groupByUptoCard : Claim7 := { stood := { row := groupByUptoRow, standIns := [], harness := (true, "ade0c979e6d032e32f334a55ea78064ccb40259231ef26ae2c0251339bbbe21f"), looks := false }, kinds := [], alts := [], laidByText := true, laidKinds := [.data], laidTests := true, laidLooks := .later }
def GroupByUptoCardSaid : Prop := Claim7.holds Tryd.pinned (.plain (OpenSpec.upto groupBySpec)) groupByUptoCard

/-- THE SECOND FORM's CARD OF 'ergolaw09.GroupCounts'. -/
def groupCountsUptoCard : Claim7 := { stood := { row := groupCountsUptoRow, standIns := [], harness := (true, "ade0c979e6d032e32f334a55ea78064ccb40259231ef26ae2c0251339bbbe21f"), looks := false }, kinds := [], alts := [], laidByText := true, laidKinds := [.data], laidTests := true, laidLooks := .later }
def GroupCountsUptoCardSaid : Prop := Claim7.holds Tryd.pinned (.plain (OpenSpec.upto groupCountsSpec)) groupCountsUptoCard
end Rows
end Go.Proofs.YtcecndjkfdaaaaaDoor
