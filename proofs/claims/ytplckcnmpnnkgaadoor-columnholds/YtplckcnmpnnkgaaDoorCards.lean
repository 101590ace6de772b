/-
  DERIVED. GIVEN WITH THE SEED: THE CARDS: each row of YtplckcnmpnnkgaaDoorRows.lean that lists a variable, with what it lists TIED to the program's text (the seventh form; the later family's looks); each row that meets fmt, with fmt's text TOLD by the authors' own Lean function (tested against real Go, not proved from fmt's source: count such statements apart). THE CARD IS WHAT COUNTS. Prove the row's statement (the work); the ties are given (YtplckcnmpnnkgaaDoorTie.lean); close each card by the builder's one call (the guide's Derived/Test/ToyasCard.lean, 'card_holds'). Laid BY PROGRAM, IN A SANDBOX (cutbox-door.mjs). By AI agents, Wed Nov 11 2026. No macro, syntax, notation, axiom, sorry.
-/
import Derived.Test.YtplckcnmpnnkgaaDoorRows
import GoSem.ClaimSeven
namespace Go.Proofs.YtplckcnmpnnkgaaDoor
namespace Rows

/-- THE TIED CARD OF 'ergolaw03.ColumnHolds'. -/
def columnHoldsCard : Claim7 := { stood := { row := columnHoldsRow, standIns := [], harness := (true, "c2adb7d21c21b20d79c991649e156373b29a4c5974874d03fa43df93d48e53b7"), looks := false }, kinds := [], alts := [], laidByText := true, laidKinds := [.data], laidTests := true, laidLooks := .later }
def ColumnHoldsCardSaid : Prop := Claim7.holds Tryd.pinned (.plain (OpenSpec.ofChange columnHoldsSpec)) columnHoldsCard

/-- THE TIED CARD OF 'ergolaw03.ColumnWhere'. -/
def columnWhereCard : Claim7 := { stood := { row := columnWhereRow, standIns := [], harness := (true, "c2adb7d21c21b20d79c991649e156373b29a4c5974874d03fa43df93d48e53b7"), looks := false }, kinds := [], alts := [], laidByText := true, laidKinds := [.data], laidTests := true, laidLooks := .later }
def ColumnWhereCardSaid : Prop := Claim7.holds Tryd.pinned (.plain (OpenSpec.ofChange columnWhereSpec)) columnWhereCard

/-- THE TIED CARD OF 'ergolaw03.ColumnGathers'. -/
def columnGathersCard : Claim7 := { stood := { row := columnGathersRow, standIns := [], harness := (true, "c2adb7d21c21b20d79c991649e156373b29a4c5974874d03fa43df93d48e53b7"), looks := false }, kinds := [], alts := [], laidByText := true, laidKinds := [.data], laidTests := true, laidLooks := .later }
def ColumnGathersCardSaid : Prop := Claim7.holds Tryd.pinned (.plain (OpenSpec.ofChange columnGathersSpec)) columnGathersCard

/-- THE TIED CARD OF 'ergolaw03.ColumnAnds'. -/
def columnAndsCard : Claim7 := { stood := { row := columnAndsRow, standIns := [], harness := (true, "c2adb7d21c21b20d79c991649e156373b29a4c5974874d03fa43df93d48e53b7"), looks := false }, kinds := [], alts := [], laidByText := true, laidKinds := [.data], laidTests := true, laidLooks := .later }
def ColumnAndsCardSaid : Prop := Claim7.holds Tryd.pinned (.plain (OpenSpec.ofChange columnAndsSpec)) columnAndsCard

/-- THE TIED CARD OF 'ergolaw03.ColumnReckons'. -/
def columnReckonsCard : Claim7 := { stood := { row := columnReckonsRow, standIns := [], harness := (true, "c2adb7d21c21b20d79c991649e156373b29a4c5974874d03fa43df93d48e53b7"), looks := false }, kinds := [], alts := [], laidByText := true, laidKinds := [.data], laidTests := true, laidLooks := .later }
def ColumnReckonsCardSaid : Prop := Claim7.holds Tryd.pinned (.plain (OpenSpec.ofChange columnReckonsSpec)) columnReckonsCard

/-- THE TIED CARD OF 'ergolaw03.ColumnParts'. -/
def columnPartsCard : Claim7 := { stood := { row := columnPartsRow, standIns := [], harness := (true, "c2adb7d21c21b20d79c991649e156373b29a4c5974874d03fa43df93d48e53b7"), looks := false }, kinds := [], alts := [], laidByText := true, laidKinds := [.data], laidTests := true, laidLooks := .later }
def ColumnPartsCardSaid : Prop := Claim7.holds Tryd.pinned (.plain (OpenSpec.ofChange columnPartsSpec)) columnPartsCard

/-- THE TIED CARD OF 'ergolaw03.ColumnChains'. -/
def columnChainsCard : Claim7 := { stood := { row := columnChainsRow, standIns := [], harness := (true, "c2adb7d21c21b20d79c991649e156373b29a4c5974874d03fa43df93d48e53b7"), looks := false }, kinds := [], alts := [], laidByText := true, laidKinds := [.data], laidTests := true, laidLooks := .later }
def ColumnChainsCardSaid : Prop := Claim7.holds Tryd.pinned (.plain (OpenSpec.ofChange columnChainsSpec)) columnChainsCard

/-- THE SECOND FORM's CARD OF 'ergolaw03.ColumnHolds'. -/
def columnHoldsUptoCard : Claim7 := { stood := { row := columnHoldsUptoRow, standIns := [], harness := (true, "c2adb7d21c21b20d79c991649e156373b29a4c5974874d03fa43df93d48e53b7"), looks := false }, kinds := [], alts := [], laidByText := true, laidKinds := [.data], laidTests := true, laidLooks := .later }
def ColumnHoldsUptoCardSaid : Prop := Claim7.holds Tryd.pinned (.plain (OpenSpec.upto columnHoldsSpec)) columnHoldsUptoCard

/-- THE SECOND FORM's CARD OF 'ergolaw03.ColumnWhere'. -/
def columnWhereUptoCard : Claim7 := { stood := { row := columnWhereUptoRow, standIns := [], harness := (true, "c2adb7d21c21b20d79c991649e156373b29a4c5974874d03fa43df93d48e53b7"), looks := false }, kinds := [], alts := [], laidByText := true, laidKinds := [.data], laidTests := true, laidLooks := .later }
def ColumnWhereUptoCardSaid : Prop := Claim7.holds Tryd.pinned (.plain (OpenSpec.upto columnWhereSpec)) columnWhereUptoCard

/-- THE SECOND FORM's CARD OF 'ergolaw03.ColumnGathers'. -/
def columnGathersUptoCard : Claim7 := { stood := { row := columnGathersUptoRow, standIns := [], harness := (true, "c2adb7d21c21b20d79c991649e156373b29a4c5974874d03fa43df93d48e53b7"), looks := false }, kinds := [], alts := [], laidByText := true, laidKinds := [.data], laidTests := true, laidLooks := .later }
def ColumnGathersUptoCardSaid : Prop := Claim7.holds Tryd.pinned (.plain (OpenSpec.upto columnGathersSpec)) columnGathersUptoCard

/-- THE SECOND FORM's CARD OF 'ergolaw03.ColumnAnds'. -/
def columnAndsUptoCard : Claim7 := { stood := { row := columnAndsUptoRow, standIns := [], harness := (true, "c2adb7d21c21b20d79c991649e156373b29a4c5974874d03fa43df93d48e53b7"), looks := false }, kinds := [], alts := [], laidByText := true, laidKinds := [.data], laidTests := true, laidLooks := .later }
def ColumnAndsUptoCardSaid : Prop := Claim7.holds Tryd.pinned (.plain (OpenSpec.upto columnAndsSpec)) columnAndsUptoCard

/-- THE SECOND FORM's CARD OF 'ergolaw03.ColumnReckons'. -/
def columnReckonsUptoCard : Claim7 := { stood := { row := columnReckonsUptoRow, standIns := [], harness := (true, "c2adb7d21c21b20d79c991649e156373b29a4c5974874d03fa43df93d48e53b7"), looks := false }, kinds := [], alts := [], laidByText := true, laidKinds := [.data], laidTests := true, laidLooks := .later }
def ColumnReckonsUptoCardSaid : Prop := Claim7.holds Tryd.pinned (.plain (OpenSpec.upto columnReckonsSpec)) columnReckonsUptoCard

/-- THE SECOND FORM's CARD OF 'ergolaw03.ColumnParts'. -/
def columnPartsUptoCard : Claim7 := { stood := { row := columnPartsUptoRow, standIns := [], harness := (true, "c2adb7d21c21b20d79c991649e156373b29a4c5974874d03fa43df93d48e53b7"), looks := false }, kinds := [], alts := [], laidByText := true, laidKinds := [.data], laidTests := true, laidLooks := .later }
def ColumnPartsUptoCardSaid : Prop := Claim7.holds Tryd.pinned (.plain (OpenSpec.upto columnPartsSpec)) columnPartsUptoCard

/-- THE SECOND FORM's CARD OF 'ergolaw03.ColumnChains'. -/
def columnChainsUptoCard : Claim7 := { stood := { row := columnChainsUptoRow, standIns := [], harness := (true, "c2adb7d21c21b20d79c991649e156373b29a4c5974874d03fa43df93d48e53b7"), looks := false }, kinds := [], alts := [], laidByText := true, laidKinds := [.data], laidTests := true, laidLooks := .later }
def ColumnChainsUptoCardSaid : Prop := Claim7.holds Tryd.pinned (.plain (OpenSpec.upto columnChainsSpec)) columnChainsUptoCard
end Rows
end Go.Proofs.YtplckcnmpnnkgaaDoor
