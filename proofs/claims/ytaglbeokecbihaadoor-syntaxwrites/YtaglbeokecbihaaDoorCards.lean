/-
  DERIVED. GIVEN WITH THE SEED: THE CARDS: each row of YtaglbeokecbihaaDoorRows.lean that lists a variable, with what it lists TIED to the program's text (the seventh form; the later family's looks); each row that meets fmt, with fmt's text TOLD by the authors' own Lean function (tested against real Go, not proved from fmt's source: count such statements apart). THE CARD IS WHAT COUNTS. Prove the row's statement (the work); the ties are given (YtaglbeokecbihaaDoorTie.lean); close each card by the builder's one call (the guide's Derived/Test/ToyasCard.lean, 'card_holds'). Laid BY PROGRAM, IN A SANDBOX (cutbox-door.mjs). By AI agents, Wed Nov 11 2026. No macro, syntax, notation, axiom, sorry.
-/
import Derived.Test.YtaglbeokecbihaaDoorRows
import GoSem.ClaimSeven
namespace Go.Proofs.YtaglbeokecbihaaDoor
namespace Rows

/-- THE TIED CARD OF 'ergolaw13.SyntaxWrites'. -/
def syntaxWritesCard : Claim7 := { stood := { row := syntaxWritesRow, standIns := [], harness := (true, "82ab8fd628d61ade1dd6f49feada8f93ced0d97afce3238947fe2d631cb6df00"), looks := false }, kinds := [], alts := [], laidByText := true, laidKinds := [.data, .data, .data, .data, .data, .data], laidTests := true, laidLooks := .later }
def SyntaxWritesCardSaid : Prop := Claim7.holds Tryd.pinned (.plain (OpenSpec.ofChange syntaxWritesSpec)) syntaxWritesCard

/-- THE TIED CARD OF 'ergolaw13.SyntaxParts'. -/
def syntaxPartsCard : Claim7 := { stood := { row := syntaxPartsRow, standIns := [], harness := (true, "82ab8fd628d61ade1dd6f49feada8f93ced0d97afce3238947fe2d631cb6df00"), looks := false }, kinds := [], alts := [], laidByText := true, laidKinds := [.data, .data, .data, .data, .data, .data], laidTests := true, laidLooks := .later }
def SyntaxPartsCardSaid : Prop := Claim7.holds Tryd.pinned (.plain (OpenSpec.ofChange syntaxPartsSpec)) syntaxPartsCard

/-- THE TIED CARD OF 'ergolaw13.SyntaxVars'. -/
def syntaxVarsCard : Claim7 := { stood := { row := syntaxVarsRow, standIns := [], harness := (true, "82ab8fd628d61ade1dd6f49feada8f93ced0d97afce3238947fe2d631cb6df00"), looks := false }, kinds := [], alts := [], laidByText := true, laidKinds := [.data, .data, .data, .data, .data, .data], laidTests := true, laidLooks := .later }
def SyntaxVarsCardSaid : Prop := Claim7.holds Tryd.pinned (.plain (OpenSpec.ofChange syntaxVarsSpec)) syntaxVarsCard

/-- THE SECOND FORM's CARD OF 'ergolaw13.SyntaxWrites'. -/
def syntaxWritesUptoCard : Claim7 := { stood := { row := syntaxWritesUptoRow, standIns := [], harness := (true, "82ab8fd628d61ade1dd6f49feada8f93ced0d97afce3238947fe2d631cb6df00"), looks := false }, kinds := [], alts := [], laidByText := true, laidKinds := [.data, .data, .data, .data, .data, .data], laidTests := true, laidLooks := .later }
def SyntaxWritesUptoCardSaid : Prop := Claim7.holds Tryd.pinned (.plain (OpenSpec.upto syntaxWritesSpec)) syntaxWritesUptoCard

/-- THE SECOND FORM's CARD OF 'ergolaw13.SyntaxParts'. -/
def syntaxPartsUptoCard : Claim7 := { stood := { row := syntaxPartsUptoRow, standIns := [], harness := (true, "82ab8fd628d61ade1dd6f49feada8f93ced0d97afce3238947fe2d631cb6df00"), looks := false }, kinds := [], alts := [], laidByText := true, laidKinds := [.data, .data, .data, .data, .data, .data], laidTests := true, laidLooks := .later }
def SyntaxPartsUptoCardSaid : Prop := Claim7.holds Tryd.pinned (.plain (OpenSpec.upto syntaxPartsSpec)) syntaxPartsUptoCard

/-- THE SECOND FORM's CARD OF 'ergolaw13.SyntaxVars'. -/
def syntaxVarsUptoCard : Claim7 := { stood := { row := syntaxVarsUptoRow, standIns := [], harness := (true, "82ab8fd628d61ade1dd6f49feada8f93ced0d97afce3238947fe2d631cb6df00"), looks := false }, kinds := [], alts := [], laidByText := true, laidKinds := [.data, .data, .data, .data, .data, .data], laidTests := true, laidLooks := .later }
def SyntaxVarsUptoCardSaid : Prop := Claim7.holds Tryd.pinned (.plain (OpenSpec.upto syntaxVarsSpec)) syntaxVarsUptoCard
end Rows
end Go.Proofs.YtaglbeokecbihaaDoor
