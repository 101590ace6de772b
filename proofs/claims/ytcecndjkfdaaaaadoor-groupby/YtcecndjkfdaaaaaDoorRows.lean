/-
  NARROWER THAN 'FOR EVERY INPUT', by the rows' own cells (each row's printed sentence says how): GroupMakes: laid · GroupBy: laid · GroupCounts: laid.
  DERIVED. THE GIVEN ROWS OF THIS SEAT. 3 by the template 'for every input the law returns true; each argument reads behind the call as it read before'; 0 by the template 'total and deterministic' (their statements: YtcecndjkfdaaaaaDoorTotals.lean).
  GIVEN WITH THE SEED: the statements are not yours to turn. If you find one false, say at which input.
  Laid BY PROGRAM, IN A SANDBOX (cutbox-rows.mjs): the forced cells as the released guide's own fill.sh prints them over the translation 79c04524036436d2… (all of the seat's roots in one cut). By AI agents, Wed Nov 11 2026. No macro, syntax, notation, axiom, sorry.
-/
import Derived.Test.YtcecndjkfdaaaaaDoorChecked
import GoSem.Claim
import GoSem.ClaimJoined
import GoSem.ClaimMapViews
import Derived.JoinedTies
import Derived.KernelRfl
namespace Go.Proofs.YtcecndjkfdaaaaaDoor
/- THE CELL 'sum', in the pinned program and in every row, IS THE sha256 OF THE DUMP (.gsa) THAT YtcecndjkfdaaaaaDoorProg.lean LOADS. Nothing in Lean hashes anything: it is a label: what it is worth is what the hold of that sum in a sandbox is worth. -/
noncomputable def Tryd.pinned : Pinned := { name := "ytcecndjkfdaaaaadoor", sum := "79c04524036436d287829dda19a105ea23cfacd8a61a7f28d221ed2df33a5f12", checked := Tryd.checked }
namespace Rows
def none {H : Type} : Left H := { results := [], args := [] }

/- WHAT THE LISTED PACKAGE-LEVEL VARIABLES READ AS WHEN THE CALL BEGINS. Each datum BY PROGRAM (the guide's laid-datum.mjs) off the statement by which the dump's own 'gosem.cut.vars' lays the variable. In a bare row this is a premise. The card (YtcecndjkfdaaaaaDoorCards.lean) ties it to the program's text. -/
def laid_ergo_group_words {H : Type} : DataW H := .agg [.lit (.string []), .lit (.string [99, 111, 117, 110, 116]), .lit (.string [115, 117, 109]), .lit (.string [109, 105, 110]), .lit (.string [109, 97, 120])]

/-- 'ergolaw09.GroupMakes': WHATEVER THE INPUT: true; the input reads as it did. -/
def groupMakesSpec : ChangeSpec := { name := "groupMakes", fn := fun _ => fun
  | [d1, d2, d3] => { results := [.lit (.bool true)], args := [d1, d2, d3] }
  | _ => none }
def groupMakesRow : OpenClaim := { program := "ytcecndjkfdaaaaadoor", sum := "79c04524036436d287829dda19a105ea23cfacd8a61a7f28d221ed2df33a5f12", func := "ergo/ergolaw09.GroupMakes", spec := "groupMakes", inPlace := ["math/bits.Add64"], unfollowed := true, recurses := true, named := ["ergo/group.words"], apart := false, laid := [("ergo/group.words", laid_ergo_group_words)] }
def GroupMakesSaid : Prop := groupMakesRow.holds Tryd.pinned (OpenSpec.ofChange groupMakesSpec)

/-- ITS FALSE NEIGHBOUR: 'it returns false'. Refute it at one input. -/
def groupMakesWrong : ChangeSpec := { name := "groupMakes", fn := fun _ => fun
  | [d1, d2, d3] => { results := [.lit (.bool false)], args := [d1, d2, d3] }
  | _ => none }
def GroupMakesWrongFalsely : Prop := groupMakesRow.holds Tryd.pinned (OpenSpec.ofChange groupMakesWrong)

/-- 'ergolaw09.GroupBy': WHATEVER THE INPUT: true; the input reads as it did. -/
def groupBySpec : ChangeSpec := { name := "groupBy", fn := fun _ => fun
  | [d1, d2, d3, d4, d5] => { results := [.lit (.bool true)], args := [d1, d2, d3, d4, d5] }
  | _ => none }
def groupByRow : OpenClaim := { program := "ytcecndjkfdaaaaadoor", sum := "79c04524036436d287829dda19a105ea23cfacd8a61a7f28d221ed2df33a5f12", func := "ergo/ergolaw09.GroupBy", spec := "groupBy", inPlace := ["math/bits.Add64"], unfollowed := true, recurses := true, named := ["ergo/group.words"], apart := false, laid := [("ergo/group.words", laid_ergo_group_words)] }
def GroupBySaid : Prop := groupByRow.holds Tryd.pinned (OpenSpec.ofChange groupBySpec)

/-- ITS FALSE NEIGHBOUR: 'it returns false'. Refute it at one input. -/
def groupByWrong : ChangeSpec := { name := "groupBy", fn := fun _ => fun
  | [d1, d2, d3, d4, d5] => { results := [.lit (.bool false)], args := [d1, d2, d3, d4, d5] }
  | _ => none }
def GroupByWrongFalsely : Prop := groupByRow.holds Tryd.pinned (OpenSpec.ofChange groupByWrong)

/-- 'ergolaw09.GroupCounts': WHATEVER THE INPUT: true; the input reads as it did. -/
def groupCountsSpec : ChangeSpec := { name := "groupCounts", fn := fun _ => fun
  | [d1, d2, d3] => { results := [.lit (.bool true)], args := [d1, d2, d3] }
  | _ => none }
def groupCountsRow : OpenClaim := { program := "ytcecndjkfdaaaaadoor", sum := "79c04524036436d287829dda19a105ea23cfacd8a61a7f28d221ed2df33a5f12", func := "ergo/ergolaw09.GroupCounts", spec := "groupCounts", inPlace := ["math/bits.Add64"], unfollowed := true, recurses := true, named := ["ergo/group.words"], apart := false, laid := [("ergo/group.words", laid_ergo_group_words)] }
def GroupCountsSaid : Prop := groupCountsRow.holds Tryd.pinned (OpenSpec.ofChange groupCountsSpec)

/-- ITS FALSE NEIGHBOUR: 'it returns false'. Refute it at one input. -/
def groupCountsWrong : ChangeSpec := { name := "groupCounts", fn := fun _ => fun
  | [d1, d2, d3] => { results := [.lit (.bool false)], args := [d1, d2, d3] }
  | _ => none }
def GroupCountsWrongFalsely : Prop := groupCountsRow.holds Tryd.pinned (OpenSpec.ofChange groupCountsWrong)

/- THE SECOND FORM. 'bulk': how many values and letters a reading holds, each counted each time it is reached (what is shared counts as often as it is met; a slice's spare places count too). A statement '..UptoSaid' is the law's where the arguments, and the package variables that the reading takes, are together of bulk at most 1048576: NARROWER than '..Said'. Prove '..Said' where nothing that the law and all that it calls make is longer than what came in: it says more and counts as full. Else prove '..UptoSaid'. A law counts once. -/
mutual
def uptoBulk {H : Type} : DataW H → Nat
  | .lit (.string bytes) => bytes.length + 1
  | .lit _ => 1
  | .nil => 1
  | .ptr d => uptoBulk d + 1
  | .slice elems spare => uptoBulkAll elems + uptoBulkAll spare + 1
  | .agg parts => uptoBulkAll parts + 1
  | .iface _ d => uptoBulk d + 1
  | .map entries => uptoBulkEntries entries + 1
  | .held _ => 1
def uptoBulkAll {H : Type} : List (DataW H) → Nat
  | [] => 0
  | d :: r => uptoBulk d + uptoBulkAll r
def uptoBulkEntries {H : Type} : List (Lit × DataW H) → Nat
  | [] => 0
  | x :: r => uptoBulkEntry x + uptoBulkEntries r
def uptoBulkEntry {H : Type} : Lit × DataW H → Nat
  | (.string bytes, d) => bytes.length + uptoBulk d + 1
  | (_, d) => uptoBulk d + 1
 end
def uptoSmall : (H : Type) → List (DataW H) → Bool := fun _ ds => decide (uptoBulkAll ds ≤ 1048576)
def OpenSpec.upto (s : _root_.Go.ChangeSpec) : _root_.Go.OpenSpec := { _root_.Go.OpenSpec.ofChange s with cond := some uptoSmall }

/-- 'ergolaw09.GroupMakes', WHERE WHAT IT READS IS OF BULK AT MOST 1048576: true; the input reads as it did. -/
def groupMakesUptoRow : OpenClaim := { program := "ytcecndjkfdaaaaadoor", sum := "79c04524036436d287829dda19a105ea23cfacd8a61a7f28d221ed2df33a5f12", func := "ergo/ergolaw09.GroupMakes", spec := "groupMakes", inPlace := ["math/bits.Add64"], unfollowed := true, recurses := true, named := ["ergo/group.words"], apart := false, laid := [("ergo/group.words", laid_ergo_group_words)], narrowed := true }
def GroupMakesUptoSaid : Prop := groupMakesUptoRow.holds Tryd.pinned (OpenSpec.upto groupMakesSpec)

/-- 'ergolaw09.GroupBy', WHERE WHAT IT READS IS OF BULK AT MOST 1048576: true; the input reads as it did. -/
def groupByUptoRow : OpenClaim := { program := "ytcecndjkfdaaaaadoor", sum := "79c04524036436d287829dda19a105ea23cfacd8a61a7f28d221ed2df33a5f12", func := "ergo/ergolaw09.GroupBy", spec := "groupBy", inPlace := ["math/bits.Add64"], unfollowed := true, recurses := true, named := ["ergo/group.words"], apart := false, laid := [("ergo/group.words", laid_ergo_group_words)], narrowed := true }
def GroupByUptoSaid : Prop := groupByUptoRow.holds Tryd.pinned (OpenSpec.upto groupBySpec)

/-- 'ergolaw09.GroupCounts', WHERE WHAT IT READS IS OF BULK AT MOST 1048576: true; the input reads as it did. -/
def groupCountsUptoRow : OpenClaim := { program := "ytcecndjkfdaaaaadoor", sum := "79c04524036436d287829dda19a105ea23cfacd8a61a7f28d221ed2df33a5f12", func := "ergo/ergolaw09.GroupCounts", spec := "groupCounts", inPlace := ["math/bits.Add64"], unfollowed := true, recurses := true, named := ["ergo/group.words"], apart := false, laid := [("ergo/group.words", laid_ergo_group_words)], narrowed := true }
def GroupCountsUptoSaid : Prop := groupCountsUptoRow.holds Tryd.pinned (OpenSpec.upto groupCountsSpec)

end Rows
end Go.Proofs.YtcecndjkfdaaaaaDoor
