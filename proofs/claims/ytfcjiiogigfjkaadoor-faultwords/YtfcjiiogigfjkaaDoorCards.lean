/-
  DERIVED. GIVEN WITH THE SEED: THE CARDS: each row of YtfcjiiogigfjkaaDoorRows.lean that lists a variable, with what it lists TIED to the program's text (the seventh form; the later family's looks); each row that meets fmt, with fmt's text TOLD by the authors' own Lean function (tested against real Go, not proved from fmt's source: count such statements apart). THE CARD IS WHAT COUNTS. Prove the row's statement (the work); the ties are given (YtfcjiiogigfjkaaDoorTie.lean); close each card by the builder's one call (the guide's Derived/Test/ToyasCard.lean, 'card_holds'). Laid BY PROGRAM, IN A SANDBOX (cutbox-door.mjs). By AI agents, Wed Nov 11 2026. No macro, syntax, notation, axiom, sorry.
-/
import Derived.Test.YtfcjiiogigfjkaaDoorRows
import GoSem.ClaimSeven
namespace Go.Proofs.YtfcjiiogigfjkaaDoor
namespace Rows

/-- THE TIED CARD OF 'ergolaw01.FaultWords'. -/
def faultWordsCard : Claim7 := { stood := { row := faultWordsRow, standIns := [], harness := (true, "2b7ce84ce5114572ac8bf9f8804103efb9781d253babb9fc7831c9dc619fb4b9"), looks := true }, kinds := [], alts := [], laidByText := true, laidKinds := [.data, .data, .data, .handle, .data], laidTests := true, laidLooks := .later }
def FaultWordsCardSaid : Prop := Claim7.holds Tryd.pinned (.plain (OpenSpec.ofChange faultWordsSpec)) faultWordsCard

/-- THE TIED CARD OF 'ergolaw01.FaultChains'. -/
def faultChainsCard : Claim7 := { stood := { row := faultChainsRow, standIns := [], harness := (true, "2b7ce84ce5114572ac8bf9f8804103efb9781d253babb9fc7831c9dc619fb4b9"), looks := true }, kinds := [], alts := [], laidByText := true, laidKinds := [.handle], laidTests := true, laidLooks := .later }
def FaultChainsCardSaid : Prop := Claim7.holds Tryd.pinned (.plain (OpenSpec.ofChange faultChainsSpec)) faultChainsCard

/-- THE TIED CARD OF 'ergolaw01.FaultBare'. -/
def faultBareCard : Claim7 := { stood := { row := faultBareRow, standIns := [], harness := (true, "2b7ce84ce5114572ac8bf9f8804103efb9781d253babb9fc7831c9dc619fb4b9"), looks := true }, kinds := [], alts := [], laidByText := true, laidKinds := [.handle], laidTests := true, laidLooks := .later }
def FaultBareCardSaid : Prop := Claim7.holds Tryd.pinned (.plain (OpenSpec.ofChange faultBareSpec)) faultBareCard

/-- THE TIED CARD OF 'ergolaw01.FaultFinds'. -/
def faultFindsCard : Claim7 := { stood := { row := faultFindsRow, standIns := [], harness := (true, "2b7ce84ce5114572ac8bf9f8804103efb9781d253babb9fc7831c9dc619fb4b9"), looks := true }, kinds := [], alts := [], laidByText := true, laidKinds := [.handle], laidTests := true, laidLooks := .later }
def FaultFindsCardSaid : Prop := Claim7.holds Tryd.pinned (.plain (OpenSpec.ofChange faultFindsSpec)) faultFindsCard

/-- THE TIED CARD OF 'ergolaw02.ArithSums'. -/
def arithSumsCard : Claim7 := { stood := { row := arithSumsRow, standIns := [], harness := (true, "2b7ce84ce5114572ac8bf9f8804103efb9781d253babb9fc7831c9dc619fb4b9"), looks := true }, kinds := [], alts := [], laidByText := true, laidKinds := [.data], laidTests := true, laidLooks := .later }
def ArithSumsCardSaid : Prop := Claim7.holds Tryd.pinned (.plain (OpenSpec.ofChange arithSumsSpec)) arithSumsCard

/-- THE TIED CARD OF 'ergolaw02.ArithProducts'. -/
def arithProductsCard : Claim7 := { stood := { row := arithProductsRow, standIns := [], harness := (true, "2b7ce84ce5114572ac8bf9f8804103efb9781d253babb9fc7831c9dc619fb4b9"), looks := true }, kinds := [], alts := [], laidByText := true, laidKinds := [.data], laidTests := true, laidLooks := .later }
def ArithProductsCardSaid : Prop := Claim7.holds Tryd.pinned (.plain (OpenSpec.ofChange arithProductsSpec)) arithProductsCard

/-- THE TIED CARD OF 'ergolaw02.ArithParts'. -/
def arithPartsCard : Claim7 := { stood := { row := arithPartsRow, standIns := [], harness := (true, "2b7ce84ce5114572ac8bf9f8804103efb9781d253babb9fc7831c9dc619fb4b9"), looks := true }, kinds := [], alts := [], laidByText := true, laidKinds := [.data], laidTests := true, laidLooks := .later }
def ArithPartsCardSaid : Prop := Claim7.holds Tryd.pinned (.plain (OpenSpec.ofChange arithPartsSpec)) arithPartsCard

/-- THE TIED CARD OF 'ergolaw02.ArithBounds'. -/
def arithBoundsCard : Claim7 := { stood := { row := arithBoundsRow, standIns := [], harness := (true, "2b7ce84ce5114572ac8bf9f8804103efb9781d253babb9fc7831c9dc619fb4b9"), looks := true }, kinds := [], alts := [], laidByText := true, laidKinds := [.data], laidTests := true, laidLooks := .later }
def ArithBoundsCardSaid : Prop := Claim7.holds Tryd.pinned (.plain (OpenSpec.ofChange arithBoundsSpec)) arithBoundsCard

/-- THE TIED CARD OF 'ergolaw02.ArithTotals'. -/
def arithTotalsCard : Claim7 := { stood := { row := arithTotalsRow, standIns := [], harness := (true, "2b7ce84ce5114572ac8bf9f8804103efb9781d253babb9fc7831c9dc619fb4b9"), looks := true }, kinds := [], alts := [], laidByText := true, laidKinds := [.data], laidTests := true, laidLooks := .later }
def ArithTotalsCardSaid : Prop := Claim7.holds Tryd.pinned (.plain (OpenSpec.ofChange arithTotalsSpec)) arithTotalsCard

/-- THE TIED CARD OF 'ergolaw02.ArithLaws'. -/
def arithLawsCard : Claim7 := { stood := { row := arithLawsRow, standIns := [], harness := (true, "2b7ce84ce5114572ac8bf9f8804103efb9781d253babb9fc7831c9dc619fb4b9"), looks := true }, kinds := [], alts := [], laidByText := true, laidKinds := [.data], laidTests := true, laidLooks := .later }
def ArithLawsCardSaid : Prop := Claim7.holds Tryd.pinned (.plain (OpenSpec.ofChange arithLawsSpec)) arithLawsCard

/-- THE TIED CARD OF 'ergolaw02.ArithBacks'. -/
def arithBacksCard : Claim7 := { stood := { row := arithBacksRow, standIns := [], harness := (true, "2b7ce84ce5114572ac8bf9f8804103efb9781d253babb9fc7831c9dc619fb4b9"), looks := true }, kinds := [], alts := [], laidByText := true, laidKinds := [.data], laidTests := true, laidLooks := .later }
def ArithBacksCardSaid : Prop := Claim7.holds Tryd.pinned (.plain (OpenSpec.ofChange arithBacksSpec)) arithBacksCard

/-- THE SECOND FORM's CARD OF 'ergolaw01.FaultWords'. -/
def faultWordsUptoCard : Claim7 := { stood := { row := faultWordsUptoRow, standIns := [], harness := (true, "2b7ce84ce5114572ac8bf9f8804103efb9781d253babb9fc7831c9dc619fb4b9"), looks := true }, kinds := [], alts := [], laidByText := true, laidKinds := [.data, .data, .data, .handle, .data], laidTests := true, laidLooks := .later }
def FaultWordsUptoCardSaid : Prop := Claim7.holds Tryd.pinned (.plain (OpenSpec.upto faultWordsSpec)) faultWordsUptoCard

/-- THE SECOND FORM's CARD OF 'ergolaw01.FaultChains'. -/
def faultChainsUptoCard : Claim7 := { stood := { row := faultChainsUptoRow, standIns := [], harness := (true, "2b7ce84ce5114572ac8bf9f8804103efb9781d253babb9fc7831c9dc619fb4b9"), looks := true }, kinds := [], alts := [], laidByText := true, laidKinds := [.handle], laidTests := true, laidLooks := .later }
def FaultChainsUptoCardSaid : Prop := Claim7.holds Tryd.pinned (.plain (OpenSpec.upto faultChainsSpec)) faultChainsUptoCard

/-- THE SECOND FORM's CARD OF 'ergolaw01.FaultBare'. -/
def faultBareUptoCard : Claim7 := { stood := { row := faultBareUptoRow, standIns := [], harness := (true, "2b7ce84ce5114572ac8bf9f8804103efb9781d253babb9fc7831c9dc619fb4b9"), looks := true }, kinds := [], alts := [], laidByText := true, laidKinds := [.handle], laidTests := true, laidLooks := .later }
def FaultBareUptoCardSaid : Prop := Claim7.holds Tryd.pinned (.plain (OpenSpec.upto faultBareSpec)) faultBareUptoCard

/-- THE SECOND FORM's CARD OF 'ergolaw01.FaultFinds'. -/
def faultFindsUptoCard : Claim7 := { stood := { row := faultFindsUptoRow, standIns := [], harness := (true, "2b7ce84ce5114572ac8bf9f8804103efb9781d253babb9fc7831c9dc619fb4b9"), looks := true }, kinds := [], alts := [], laidByText := true, laidKinds := [.handle], laidTests := true, laidLooks := .later }
def FaultFindsUptoCardSaid : Prop := Claim7.holds Tryd.pinned (.plain (OpenSpec.upto faultFindsSpec)) faultFindsUptoCard

/-- THE SECOND FORM's CARD OF 'ergolaw02.ArithSums'. -/
def arithSumsUptoCard : Claim7 := { stood := { row := arithSumsUptoRow, standIns := [], harness := (true, "2b7ce84ce5114572ac8bf9f8804103efb9781d253babb9fc7831c9dc619fb4b9"), looks := true }, kinds := [], alts := [], laidByText := true, laidKinds := [.data], laidTests := true, laidLooks := .later }
def ArithSumsUptoCardSaid : Prop := Claim7.holds Tryd.pinned (.plain (OpenSpec.upto arithSumsSpec)) arithSumsUptoCard

/-- THE SECOND FORM's CARD OF 'ergolaw02.ArithProducts'. -/
def arithProductsUptoCard : Claim7 := { stood := { row := arithProductsUptoRow, standIns := [], harness := (true, "2b7ce84ce5114572ac8bf9f8804103efb9781d253babb9fc7831c9dc619fb4b9"), looks := true }, kinds := [], alts := [], laidByText := true, laidKinds := [.data], laidTests := true, laidLooks := .later }
def ArithProductsUptoCardSaid : Prop := Claim7.holds Tryd.pinned (.plain (OpenSpec.upto arithProductsSpec)) arithProductsUptoCard

/-- THE SECOND FORM's CARD OF 'ergolaw02.ArithParts'. -/
def arithPartsUptoCard : Claim7 := { stood := { row := arithPartsUptoRow, standIns := [], harness := (true, "2b7ce84ce5114572ac8bf9f8804103efb9781d253babb9fc7831c9dc619fb4b9"), looks := true }, kinds := [], alts := [], laidByText := true, laidKinds := [.data], laidTests := true, laidLooks := .later }
def ArithPartsUptoCardSaid : Prop := Claim7.holds Tryd.pinned (.plain (OpenSpec.upto arithPartsSpec)) arithPartsUptoCard

/-- THE SECOND FORM's CARD OF 'ergolaw02.ArithBounds'. -/
def arithBoundsUptoCard : Claim7 := { stood := { row := arithBoundsUptoRow, standIns := [], harness := (true, "2b7ce84ce5114572ac8bf9f8804103efb9781d253babb9fc7831c9dc619fb4b9"), looks := true }, kinds := [], alts := [], laidByText := true, laidKinds := [.data], laidTests := true, laidLooks := .later }
def ArithBoundsUptoCardSaid : Prop := Claim7.holds Tryd.pinned (.plain (OpenSpec.upto arithBoundsSpec)) arithBoundsUptoCard

/-- THE SECOND FORM's CARD OF 'ergolaw02.ArithTotals'. -/
def arithTotalsUptoCard : Claim7 := { stood := { row := arithTotalsUptoRow, standIns := [], harness := (true, "2b7ce84ce5114572ac8bf9f8804103efb9781d253babb9fc7831c9dc619fb4b9"), looks := true }, kinds := [], alts := [], laidByText := true, laidKinds := [.data], laidTests := true, laidLooks := .later }
def ArithTotalsUptoCardSaid : Prop := Claim7.holds Tryd.pinned (.plain (OpenSpec.upto arithTotalsSpec)) arithTotalsUptoCard

/-- THE SECOND FORM's CARD OF 'ergolaw02.ArithLaws'. -/
def arithLawsUptoCard : Claim7 := { stood := { row := arithLawsUptoRow, standIns := [], harness := (true, "2b7ce84ce5114572ac8bf9f8804103efb9781d253babb9fc7831c9dc619fb4b9"), looks := true }, kinds := [], alts := [], laidByText := true, laidKinds := [.data], laidTests := true, laidLooks := .later }
def ArithLawsUptoCardSaid : Prop := Claim7.holds Tryd.pinned (.plain (OpenSpec.upto arithLawsSpec)) arithLawsUptoCard

/-- THE SECOND FORM's CARD OF 'ergolaw02.ArithBacks'. -/
def arithBacksUptoCard : Claim7 := { stood := { row := arithBacksUptoRow, standIns := [], harness := (true, "2b7ce84ce5114572ac8bf9f8804103efb9781d253babb9fc7831c9dc619fb4b9"), looks := true }, kinds := [], alts := [], laidByText := true, laidKinds := [.data], laidTests := true, laidLooks := .later }
def ArithBacksUptoCardSaid : Prop := Claim7.holds Tryd.pinned (.plain (OpenSpec.upto arithBacksSpec)) arithBacksUptoCard
end Rows
end Go.Proofs.YtfcjiiogigfjkaaDoor
