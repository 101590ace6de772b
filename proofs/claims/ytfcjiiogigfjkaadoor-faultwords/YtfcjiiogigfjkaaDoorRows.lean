/-
  NARROWER THAN 'FOR EVERY INPUT', by the rows' own cells (each row's printed sentence says how): FaultWords: laid · FaultChains: laid · FaultBare: laid · FaultFinds: laid · ArithSums: laid · ArithProducts: laid · ArithParts: laid · ArithBounds: laid · ArithTotals: laid · ArithLaws: laid · ArithBacks: laid.
  DERIVED. THE GIVEN ROWS OF THIS SEAT. 11 by the template 'for every input the law returns true; each argument reads behind the call as it read before'; 0 by the template 'total and deterministic' (their statements: YtfcjiiogigfjkaaDoorTotals.lean).
  GIVEN WITH THE SEED: the statements are not yours to turn. If you find one false, say at which input.
  Laid BY PROGRAM, IN A SANDBOX (cutbox-rows.mjs): the forced cells as the released guide's own fill.sh prints them over the translation 2c3d5d923a27f2a5… (all of the seat's roots in one cut). By AI agents, Wed Nov 11 2026. No macro, syntax, notation, axiom, sorry.
-/
import Derived.Test.YtfcjiiogigfjkaaDoorChecked
import GoSem.Claim
import GoSem.ClaimJoined
import GoSem.ClaimMapViews
import Derived.JoinedTies
import Derived.KernelRfl
namespace Go.Proofs.YtfcjiiogigfjkaaDoor
/- THE CELL 'sum', in the pinned program and in every row, IS THE sha256 OF THE DUMP (.gsa) THAT YtfcjiiogigfjkaaDoorProg.lean LOADS. Nothing in Lean hashes anything: it is a label: what it is worth is what the hold of that sum in a sandbox is worth. -/
noncomputable def Tryd.pinned : Pinned := { name := "ytfcjiiogigfjkaadoor", sum := "2c3d5d923a27f2a5575add57850e8899626169cd0308449720b6342fdef28887", checked := Tryd.checked }
namespace Rows
def none {H : Type} : Left H := { results := [], args := [] }

/- WHAT THE LISTED PACKAGE-LEVEL VARIABLES READ AS WHEN THE CALL BEGINS. Each datum BY PROGRAM (the guide's laid-datum.mjs) off the statement by which the dump's own 'gosem.cut.vars' lays the variable. In a bare row this is a premise. The card (YtfcjiiogigfjkaaDoorCards.lean) ties it to the program's text. -/
def laid_math_bits_deBruijn32tab {H : Type} : DataW H := .agg [.lit (.int .u8 0), .lit (.int .u8 1), .lit (.int .u8 28), .lit (.int .u8 2), .lit (.int .u8 29), .lit (.int .u8 14), .lit (.int .u8 24), .lit (.int .u8 3), .lit (.int .u8 30), .lit (.int .u8 22), .lit (.int .u8 20), .lit (.int .u8 15), .lit (.int .u8 25), .lit (.int .u8 17), .lit (.int .u8 4), .lit (.int .u8 8), .lit (.int .u8 31), .lit (.int .u8 27), .lit (.int .u8 13), .lit (.int .u8 23), .lit (.int .u8 21), .lit (.int .u8 19), .lit (.int .u8 16), .lit (.int .u8 7), .lit (.int .u8 26), .lit (.int .u8 12), .lit (.int .u8 18), .lit (.int .u8 6), .lit (.int .u8 11), .lit (.int .u8 5), .lit (.int .u8 10), .lit (.int .u8 9)]
def laid_math_bits_deBruijn64tab {H : Type} : DataW H := .agg [.lit (.int .u8 0), .lit (.int .u8 1), .lit (.int .u8 56), .lit (.int .u8 2), .lit (.int .u8 57), .lit (.int .u8 49), .lit (.int .u8 28), .lit (.int .u8 3), .lit (.int .u8 61), .lit (.int .u8 58), .lit (.int .u8 42), .lit (.int .u8 50), .lit (.int .u8 38), .lit (.int .u8 29), .lit (.int .u8 17), .lit (.int .u8 4), .lit (.int .u8 62), .lit (.int .u8 47), .lit (.int .u8 59), .lit (.int .u8 36), .lit (.int .u8 45), .lit (.int .u8 43), .lit (.int .u8 51), .lit (.int .u8 22), .lit (.int .u8 53), .lit (.int .u8 39), .lit (.int .u8 33), .lit (.int .u8 30), .lit (.int .u8 24), .lit (.int .u8 18), .lit (.int .u8 12), .lit (.int .u8 5), .lit (.int .u8 63), .lit (.int .u8 55), .lit (.int .u8 48), .lit (.int .u8 27), .lit (.int .u8 60), .lit (.int .u8 41), .lit (.int .u8 37), .lit (.int .u8 16), .lit (.int .u8 46), .lit (.int .u8 35), .lit (.int .u8 44), .lit (.int .u8 21), .lit (.int .u8 52), .lit (.int .u8 32), .lit (.int .u8 23), .lit (.int .u8 11), .lit (.int .u8 54), .lit (.int .u8 26), .lit (.int .u8 40), .lit (.int .u8 15), .lit (.int .u8 34), .lit (.int .u8 20), .lit (.int .u8 31), .lit (.int .u8 10), .lit (.int .u8 25), .lit (.int .u8 14), .lit (.int .u8 19), .lit (.int .u8 9), .lit (.int .u8 13), .lit (.int .u8 8), .lit (.int .u8 7), .lit (.int .u8 6)]
def laid_internal_strconv_uint64pow10 {H : Type} : DataW H := .agg [.lit (.int .u64 1), .lit (.int .u64 10), .lit (.int .u64 100), .lit (.int .u64 1000), .lit (.int .u64 10000), .lit (.int .u64 100000), .lit (.int .u64 1000000), .lit (.int .u64 10000000), .lit (.int .u64 100000000), .lit (.int .u64 1000000000), .lit (.int .u64 10000000000), .lit (.int .u64 100000000000), .lit (.int .u64 1000000000000), .lit (.int .u64 10000000000000), .lit (.int .u64 100000000000000), .lit (.int .u64 1000000000000000), .lit (.int .u64 10000000000000000), .lit (.int .u64 100000000000000000), .lit (.int .u64 1000000000000000000), .lit (.int .u64 10000000000000000000)]
def laid_errors_errorType {H : Type} : DataW H := .iface "internal/reflectlite.rtype" (.agg [.ptr (.lit (.string [101, 114, 114, 111, 114]))])
def laid_ergo_fault_names {H : Type} : DataW H := .agg [.lit (.string [110, 111, 110, 101]), .lit (.string [115, 121, 110, 116, 97, 120]), .lit (.string [100, 101, 101, 112]), .lit (.string [109, 97, 110, 121]), .lit (.string [97, 114, 105, 116, 121]), .lit (.string [116, 121, 112, 101]), .lit (.string [117, 110, 115, 97, 102, 101]), .lit (.string [99, 121, 99, 108, 101]), .lit (.string [97, 100, 109, 105, 116]), .lit (.string [117, 110, 107, 110, 111, 119, 110]), .lit (.string [97, 114, 105, 116, 104]), .lit (.string [102, 117, 101, 108]), .lit (.string [114, 111, 119, 115]), .lit (.string [99, 111, 109, 109, 97, 110, 100])]
def laid_ergo_arith_signs {H : Type} : DataW H := .agg [.lit (.string [43]), .lit (.string [45]), .lit (.string [42]), .lit (.string [47]), .lit (.string [37])]

/-- 'ergolaw01.FaultWords': WHATEVER THE INPUT: true; the input reads as it did. -/
def faultWordsSpec : ChangeSpec := { name := "faultWords", fn := fun _ => fun
  | [d] => { results := [.lit (.bool true)], args := [d] }
  | _ => none }
def faultWordsRow : OpenClaim := { program := "ytfcjiiogigfjkaadoor", sum := "2c3d5d923a27f2a5575add57850e8899626169cd0308449720b6342fdef28887", func := "ergo/ergolaw01.FaultWords", spec := "faultWords", inPlace := ["internal/reflectlite.ValueOf", "(internal/reflectlite.Value).Type", "(internal/reflectlite.Value).IsNil", "internal/reflectlite.TypeOf", "(internal/reflectlite.Value).Elem", "(internal/reflectlite.Value).Set"], unfollowed := true, recurses := true, named := ["errors.errorType", "ergo/fault.names", "internal/strconv.uint64pow10", "math/bits.deBruijn32tab", "math/bits.deBruijn64tab"], apart := false, laid := [("math/bits.deBruijn32tab", laid_math_bits_deBruijn32tab), ("math/bits.deBruijn64tab", laid_math_bits_deBruijn64tab), ("internal/strconv.uint64pow10", laid_internal_strconv_uint64pow10), ("errors.errorType", laid_errors_errorType), ("ergo/fault.names", laid_ergo_fault_names)] }
def FaultWordsSaid : Prop := faultWordsRow.holds Tryd.pinned (OpenSpec.ofChange faultWordsSpec)

/-- ITS FALSE NEIGHBOUR: 'it returns false'. Refute it at one input. -/
def faultWordsWrong : ChangeSpec := { name := "faultWords", fn := fun _ => fun
  | [d] => { results := [.lit (.bool false)], args := [d] }
  | _ => none }
def FaultWordsWrongFalsely : Prop := faultWordsRow.holds Tryd.pinned (OpenSpec.ofChange faultWordsWrong)

/-- 'ergolaw01.FaultChains': WHATEVER THE INPUT: true; the input reads as it did. -/
def faultChainsSpec : ChangeSpec := { name := "faultChains", fn := fun _ => fun
  | [d1, d2, d3, d4, d5] => { results := [.lit (.bool true)], args := [d1, d2, d3, d4, d5] }
  | _ => none }
def faultChainsRow : OpenClaim := { program := "ytfcjiiogigfjkaadoor", sum := "2c3d5d923a27f2a5575add57850e8899626169cd0308449720b6342fdef28887", func := "ergo/ergolaw01.FaultChains", spec := "faultChains", inPlace := ["internal/reflectlite.ValueOf", "(internal/reflectlite.Value).Type", "(internal/reflectlite.Value).IsNil", "internal/reflectlite.TypeOf", "(internal/reflectlite.Value).Elem", "(internal/reflectlite.Value).Set"], unfollowed := true, recurses := true, named := ["errors.errorType"], apart := false, laid := [("errors.errorType", laid_errors_errorType)] }
def FaultChainsSaid : Prop := faultChainsRow.holds Tryd.pinned (OpenSpec.ofChange faultChainsSpec)

/-- ITS FALSE NEIGHBOUR: 'it returns false'. Refute it at one input. -/
def faultChainsWrong : ChangeSpec := { name := "faultChains", fn := fun _ => fun
  | [d1, d2, d3, d4, d5] => { results := [.lit (.bool false)], args := [d1, d2, d3, d4, d5] }
  | _ => none }
def FaultChainsWrongFalsely : Prop := faultChainsRow.holds Tryd.pinned (OpenSpec.ofChange faultChainsWrong)

/-- 'ergolaw01.FaultBare': WHATEVER THE INPUT: true; the input reads as it did. -/
def faultBareSpec : ChangeSpec := { name := "faultBare", fn := fun _ => fun
  | [d1, d2, d3] => { results := [.lit (.bool true)], args := [d1, d2, d3] }
  | _ => none }
def faultBareRow : OpenClaim := { program := "ytfcjiiogigfjkaadoor", sum := "2c3d5d923a27f2a5575add57850e8899626169cd0308449720b6342fdef28887", func := "ergo/ergolaw01.FaultBare", spec := "faultBare", inPlace := ["internal/reflectlite.ValueOf", "(internal/reflectlite.Value).Type", "(internal/reflectlite.Value).IsNil", "internal/reflectlite.TypeOf", "(internal/reflectlite.Value).Elem", "(internal/reflectlite.Value).Set"], unfollowed := true, recurses := true, named := ["errors.errorType"], apart := false, laid := [("errors.errorType", laid_errors_errorType)] }
def FaultBareSaid : Prop := faultBareRow.holds Tryd.pinned (OpenSpec.ofChange faultBareSpec)

/-- ITS FALSE NEIGHBOUR: 'it returns false'. Refute it at one input. -/
def faultBareWrong : ChangeSpec := { name := "faultBare", fn := fun _ => fun
  | [d1, d2, d3] => { results := [.lit (.bool false)], args := [d1, d2, d3] }
  | _ => none }
def FaultBareWrongFalsely : Prop := faultBareRow.holds Tryd.pinned (OpenSpec.ofChange faultBareWrong)

/-- 'ergolaw01.FaultFinds': WHATEVER THE INPUT: true; the input reads as it did. -/
def faultFindsSpec : ChangeSpec := { name := "faultFinds", fn := fun _ => fun
  | [d1, d2] => { results := [.lit (.bool true)], args := [d1, d2] }
  | _ => none }
def faultFindsRow : OpenClaim := { program := "ytfcjiiogigfjkaadoor", sum := "2c3d5d923a27f2a5575add57850e8899626169cd0308449720b6342fdef28887", func := "ergo/ergolaw01.FaultFinds", spec := "faultFinds", inPlace := ["internal/reflectlite.ValueOf", "(internal/reflectlite.Value).Type", "(internal/reflectlite.Value).IsNil", "internal/reflectlite.TypeOf", "(internal/reflectlite.Value).Elem", "(internal/reflectlite.Value).Set"], unfollowed := true, recurses := true, named := ["errors.errorType"], apart := false, laid := [("errors.errorType", laid_errors_errorType)] }
def FaultFindsSaid : Prop := faultFindsRow.holds Tryd.pinned (OpenSpec.ofChange faultFindsSpec)

/-- ITS FALSE NEIGHBOUR: 'it returns false'. Refute it at one input. -/
def faultFindsWrong : ChangeSpec := { name := "faultFinds", fn := fun _ => fun
  | [d1, d2] => { results := [.lit (.bool false)], args := [d1, d2] }
  | _ => none }
def FaultFindsWrongFalsely : Prop := faultFindsRow.holds Tryd.pinned (OpenSpec.ofChange faultFindsWrong)

/-- 'ergolaw02.ArithSums': WHATEVER THE INPUT: true; the input reads as it did. -/
def arithSumsSpec : ChangeSpec := { name := "arithSums", fn := fun _ => fun
  | [d1, d2] => { results := [.lit (.bool true)], args := [d1, d2] }
  | _ => none }
def arithSumsRow : OpenClaim := { program := "ytfcjiiogigfjkaadoor", sum := "2c3d5d923a27f2a5575add57850e8899626169cd0308449720b6342fdef28887", func := "ergo/ergolaw02.ArithSums", spec := "arithSums", inPlace := ["math/bits.Add64"], named := ["ergo/arith.signs"], apart := false, laid := [("ergo/arith.signs", laid_ergo_arith_signs)] }
def ArithSumsSaid : Prop := arithSumsRow.holds Tryd.pinned (OpenSpec.ofChange arithSumsSpec)

/-- ITS FALSE NEIGHBOUR: 'it returns false'. Refute it at one input. -/
def arithSumsWrong : ChangeSpec := { name := "arithSums", fn := fun _ => fun
  | [d1, d2] => { results := [.lit (.bool false)], args := [d1, d2] }
  | _ => none }
def ArithSumsWrongFalsely : Prop := arithSumsRow.holds Tryd.pinned (OpenSpec.ofChange arithSumsWrong)

/-- 'ergolaw02.ArithProducts': WHATEVER THE INPUT: true; the input reads as it did. -/
def arithProductsSpec : ChangeSpec := { name := "arithProducts", fn := fun _ => fun
  | [d1, d2] => { results := [.lit (.bool true)], args := [d1, d2] }
  | _ => none }
def arithProductsRow : OpenClaim := { program := "ytfcjiiogigfjkaadoor", sum := "2c3d5d923a27f2a5575add57850e8899626169cd0308449720b6342fdef28887", func := "ergo/ergolaw02.ArithProducts", spec := "arithProducts", named := ["ergo/arith.signs"], apart := false, laid := [("ergo/arith.signs", laid_ergo_arith_signs)] }
def ArithProductsSaid : Prop := arithProductsRow.holds Tryd.pinned (OpenSpec.ofChange arithProductsSpec)

/-- ITS FALSE NEIGHBOUR: 'it returns false'. Refute it at one input. -/
def arithProductsWrong : ChangeSpec := { name := "arithProducts", fn := fun _ => fun
  | [d1, d2] => { results := [.lit (.bool false)], args := [d1, d2] }
  | _ => none }
def ArithProductsWrongFalsely : Prop := arithProductsRow.holds Tryd.pinned (OpenSpec.ofChange arithProductsWrong)

/-- 'ergolaw02.ArithParts': WHATEVER THE INPUT: true; the input reads as it did. -/
def arithPartsSpec : ChangeSpec := { name := "arithParts", fn := fun _ => fun
  | [d1, d2] => { results := [.lit (.bool true)], args := [d1, d2] }
  | _ => none }
def arithPartsRow : OpenClaim := { program := "ytfcjiiogigfjkaadoor", sum := "2c3d5d923a27f2a5575add57850e8899626169cd0308449720b6342fdef28887", func := "ergo/ergolaw02.ArithParts", spec := "arithParts", named := ["ergo/arith.signs"], apart := false, laid := [("ergo/arith.signs", laid_ergo_arith_signs)] }
def ArithPartsSaid : Prop := arithPartsRow.holds Tryd.pinned (OpenSpec.ofChange arithPartsSpec)

/-- ITS FALSE NEIGHBOUR: 'it returns false'. Refute it at one input. -/
def arithPartsWrong : ChangeSpec := { name := "arithParts", fn := fun _ => fun
  | [d1, d2] => { results := [.lit (.bool false)], args := [d1, d2] }
  | _ => none }
def ArithPartsWrongFalsely : Prop := arithPartsRow.holds Tryd.pinned (OpenSpec.ofChange arithPartsWrong)

/-- 'ergolaw02.ArithBounds': WHATEVER THE INPUT: true; the input reads as it did. -/
def arithBoundsSpec : ChangeSpec := { name := "arithBounds", fn := fun _ => fun
  | [d1, d2, d3] => { results := [.lit (.bool true)], args := [d1, d2, d3] }
  | _ => none }
def arithBoundsRow : OpenClaim := { program := "ytfcjiiogigfjkaadoor", sum := "2c3d5d923a27f2a5575add57850e8899626169cd0308449720b6342fdef28887", func := "ergo/ergolaw02.ArithBounds", spec := "arithBounds", named := ["ergo/arith.signs"], apart := false, laid := [("ergo/arith.signs", laid_ergo_arith_signs)] }
def ArithBoundsSaid : Prop := arithBoundsRow.holds Tryd.pinned (OpenSpec.ofChange arithBoundsSpec)

/-- ITS FALSE NEIGHBOUR: 'it returns false'. Refute it at one input. -/
def arithBoundsWrong : ChangeSpec := { name := "arithBounds", fn := fun _ => fun
  | [d1, d2, d3] => { results := [.lit (.bool false)], args := [d1, d2, d3] }
  | _ => none }
def ArithBoundsWrongFalsely : Prop := arithBoundsRow.holds Tryd.pinned (OpenSpec.ofChange arithBoundsWrong)

/-- 'ergolaw02.ArithTotals': WHATEVER THE INPUT: true; the input reads as it did. -/
def arithTotalsSpec : ChangeSpec := { name := "arithTotals", fn := fun _ => fun
  | [d1, d2] => { results := [.lit (.bool true)], args := [d1, d2] }
  | _ => none }
def arithTotalsRow : OpenClaim := { program := "ytfcjiiogigfjkaadoor", sum := "2c3d5d923a27f2a5575add57850e8899626169cd0308449720b6342fdef28887", func := "ergo/ergolaw02.ArithTotals", spec := "arithTotals", inPlace := ["math/bits.Add64"], named := ["ergo/arith.signs"], apart := false, laid := [("ergo/arith.signs", laid_ergo_arith_signs)] }
def ArithTotalsSaid : Prop := arithTotalsRow.holds Tryd.pinned (OpenSpec.ofChange arithTotalsSpec)

/-- ITS FALSE NEIGHBOUR: 'it returns false'. Refute it at one input. -/
def arithTotalsWrong : ChangeSpec := { name := "arithTotals", fn := fun _ => fun
  | [d1, d2] => { results := [.lit (.bool false)], args := [d1, d2] }
  | _ => none }
def ArithTotalsWrongFalsely : Prop := arithTotalsRow.holds Tryd.pinned (OpenSpec.ofChange arithTotalsWrong)

/-- 'ergolaw02.ArithLaws': WHATEVER THE INPUT: true; the input reads as it did. -/
def arithLawsSpec : ChangeSpec := { name := "arithLaws", fn := fun _ => fun
  | [d1, d2, d3] => { results := [.lit (.bool true)], args := [d1, d2, d3] }
  | _ => none }
def arithLawsRow : OpenClaim := { program := "ytfcjiiogigfjkaadoor", sum := "2c3d5d923a27f2a5575add57850e8899626169cd0308449720b6342fdef28887", func := "ergo/ergolaw02.ArithLaws", spec := "arithLaws", named := ["ergo/arith.signs"], apart := false, laid := [("ergo/arith.signs", laid_ergo_arith_signs)] }
def ArithLawsSaid : Prop := arithLawsRow.holds Tryd.pinned (OpenSpec.ofChange arithLawsSpec)

/-- ITS FALSE NEIGHBOUR: 'it returns false'. Refute it at one input. -/
def arithLawsWrong : ChangeSpec := { name := "arithLaws", fn := fun _ => fun
  | [d1, d2, d3] => { results := [.lit (.bool false)], args := [d1, d2, d3] }
  | _ => none }
def ArithLawsWrongFalsely : Prop := arithLawsRow.holds Tryd.pinned (OpenSpec.ofChange arithLawsWrong)

/-- 'ergolaw02.ArithBacks': WHATEVER THE INPUT: true; the input reads as it did. -/
def arithBacksSpec : ChangeSpec := { name := "arithBacks", fn := fun _ => fun
  | [d1, d2] => { results := [.lit (.bool true)], args := [d1, d2] }
  | _ => none }
def arithBacksRow : OpenClaim := { program := "ytfcjiiogigfjkaadoor", sum := "2c3d5d923a27f2a5575add57850e8899626169cd0308449720b6342fdef28887", func := "ergo/ergolaw02.ArithBacks", spec := "arithBacks", named := ["ergo/arith.signs"], apart := false, laid := [("ergo/arith.signs", laid_ergo_arith_signs)] }
def ArithBacksSaid : Prop := arithBacksRow.holds Tryd.pinned (OpenSpec.ofChange arithBacksSpec)

/-- ITS FALSE NEIGHBOUR: 'it returns false'. Refute it at one input. -/
def arithBacksWrong : ChangeSpec := { name := "arithBacks", fn := fun _ => fun
  | [d1, d2] => { results := [.lit (.bool false)], args := [d1, d2] }
  | _ => none }
def ArithBacksWrongFalsely : Prop := arithBacksRow.holds Tryd.pinned (OpenSpec.ofChange arithBacksWrong)

/- THE SECOND FORM. 'bulk': how many values and letters a reading holds, each counted each time it is reached (what is shared counts as often as it is met; a slice's spare places count too). A statement '..UptoSaid' is the law's where the arguments, and the package variables that the reading takes, are together of bulk at most 1048576: NARROWER than '..Said'. Prove '..Said' where nothing that the law and all that it calls make is longer than what came in: it says more and counts as full. Else prove '..UptoSaid'. A law counts once. -/
mutual
def uptoBulk {H : Type} : DataW H → Nat
  | .lit (.string bytes) => bytes.length + 1
  | .lit _ => 1
  | .nil => 1
  | .ptr d => uptoBulk d + 1
  | .slice elems spare => uptoBulkAll elems + uptoBulkAll spare + 1
  | .agg parts => uptoBulkAll parts + 1
  | .iface _ d => uptoBulk d + 1
  | .map entries => uptoBulkEntries entries + 1
  | .held _ => 1
def uptoBulkAll {H : Type} : List (DataW H) → Nat
  | [] => 0
  | d :: r => uptoBulk d + uptoBulkAll r
def uptoBulkEntries {H : Type} : List (Lit × DataW H) → Nat
  | [] => 0
  | x :: r => uptoBulkEntry x + uptoBulkEntries r
def uptoBulkEntry {H : Type} : Lit × DataW H → Nat
  | (.string bytes, d) => bytes.length + uptoBulk d + 1
  | (_, d) => uptoBulk d + 1
 end
def uptoSmall : (H : Type) → List (DataW H) → Bool := fun _ ds => decide (uptoBulkAll ds ≤ 1048576)
def OpenSpec.upto (s : _root_.Go.ChangeSpec) : _root_.Go.OpenSpec := { _root_.Go.OpenSpec.ofChange s with cond := some uptoSmall }

/-- 'ergolaw01.FaultWords', WHERE WHAT IT READS IS OF BULK AT MOST 1048576: true; the input reads as it did. -/
def faultWordsUptoRow : OpenClaim := { program := "ytfcjiiogigfjkaadoor", sum := "2c3d5d923a27f2a5575add57850e8899626169cd0308449720b6342fdef28887", func := "ergo/ergolaw01.FaultWords", spec := "faultWords", inPlace := ["internal/reflectlite.ValueOf", "(internal/reflectlite.Value).Type", "(internal/reflectlite.Value).IsNil", "internal/reflectlite.TypeOf", "(internal/reflectlite.Value).Elem", "(internal/reflectlite.Value).Set"], unfollowed := true, recurses := true, named := ["errors.errorType", "ergo/fault.names", "internal/strconv.uint64pow10", "math/bits.deBruijn32tab", "math/bits.deBruijn64tab"], apart := false, laid := [("math/bits.deBruijn32tab", laid_math_bits_deBruijn32tab), ("math/bits.deBruijn64tab", laid_math_bits_deBruijn64tab), ("internal/strconv.uint64pow10", laid_internal_strconv_uint64pow10), ("errors.errorType", laid_errors_errorType), ("ergo/fault.names", laid_ergo_fault_names)], narrowed := true }
def FaultWordsUptoSaid : Prop := faultWordsUptoRow.holds Tryd.pinned (OpenSpec.upto faultWordsSpec)

/-- 'ergolaw01.FaultChains', WHERE WHAT IT READS IS OF BULK AT MOST 1048576: true; the input reads as it did. -/
def faultChainsUptoRow : OpenClaim := { program := "ytfcjiiogigfjkaadoor", sum := "2c3d5d923a27f2a5575add57850e8899626169cd0308449720b6342fdef28887", func := "ergo/ergolaw01.FaultChains", spec := "faultChains", inPlace := ["internal/reflectlite.ValueOf", "(internal/reflectlite.Value).Type", "(internal/reflectlite.Value).IsNil", "internal/reflectlite.TypeOf", "(internal/reflectlite.Value).Elem", "(internal/reflectlite.Value).Set"], unfollowed := true, recurses := true, named := ["errors.errorType"], apart := false, laid := [("errors.errorType", laid_errors_errorType)], narrowed := true }
def FaultChainsUptoSaid : Prop := faultChainsUptoRow.holds Tryd.pinned (OpenSpec.upto faultChainsSpec)

/-- 'ergolaw01.FaultBare', WHERE WHAT IT READS IS OF BULK AT MOST 1048576: true; the input reads as it did. -/
def faultBareUptoRow : OpenClaim := { program := "ytfcjiiogigfjkaadoor", sum := "2c3d5d923a27f2a5575add57850e8899626169cd0308449720b6342fdef28887", func := "ergo/ergolaw01.FaultBare", spec := "faultBare", inPlace := ["internal/reflectlite.ValueOf", "(internal/reflectlite.Value).Type", "(internal/reflectlite.Value).IsNil", "internal/reflectlite.TypeOf", "(internal/reflectlite.Value).Elem", "(internal/reflectlite.Value).Set"], unfollowed := true, recurses := true, named := ["errors.errorType"], apart := false, laid := [("errors.errorType", laid_errors_errorType)], narrowed := true }
def FaultBareUptoSaid : Prop := faultBareUptoRow.holds Tryd.pinned (OpenSpec.upto faultBareSpec)

/-- 'ergolaw01.FaultFinds', WHERE WHAT IT READS IS OF BULK AT MOST 1048576: true; the input reads as it did. -/
def faultFindsUptoRow : OpenClaim := { program := "ytfcjiiogigfjkaadoor", sum := "2c3d5d923a27f2a5575add57850e8899626169cd0308449720b6342fdef28887", func := "ergo/ergolaw01.FaultFinds", spec := "faultFinds", inPlace := ["internal/reflectlite.ValueOf", "(internal/reflectlite.Value).Type", "(internal/reflectlite.Value).IsNil", "internal/reflectlite.TypeOf", "(internal/reflectlite.Value).Elem", "(internal/reflectlite.Value).Set"], unfollowed := true, recurses := true, named := ["errors.errorType"], apart := false, laid := [("errors.errorType", laid_errors_errorType)], narrowed := true }
def FaultFindsUptoSaid : Prop := faultFindsUptoRow.holds Tryd.pinned (OpenSpec.upto faultFindsSpec)

/-- 'ergolaw02.ArithSums', WHERE WHAT IT READS IS OF BULK AT MOST 1048576: true; the input reads as it did. -/
def arithSumsUptoRow : OpenClaim := { program := "ytfcjiiogigfjkaadoor", sum := "2c3d5d923a27f2a5575add57850e8899626169cd0308449720b6342fdef28887", func := "ergo/ergolaw02.ArithSums", spec := "arithSums", inPlace := ["math/bits.Add64"], named := ["ergo/arith.signs"], apart := false, laid := [("ergo/arith.signs", laid_ergo_arith_signs)], narrowed := true }
def ArithSumsUptoSaid : Prop := arithSumsUptoRow.holds Tryd.pinned (OpenSpec.upto arithSumsSpec)

/-- 'ergolaw02.ArithProducts', WHERE WHAT IT READS IS OF BULK AT MOST 1048576: true; the input reads as it did. -/
def arithProductsUptoRow : OpenClaim := { program := "ytfcjiiogigfjkaadoor", sum := "2c3d5d923a27f2a5575add57850e8899626169cd0308449720b6342fdef28887", func := "ergo/ergolaw02.ArithProducts", spec := "arithProducts", named := ["ergo/arith.signs"], apart := false, laid := [("ergo/arith.signs", laid_ergo_arith_signs)], narrowed := true }
def ArithProductsUptoSaid : Prop := arithProductsUptoRow.holds Tryd.pinned (OpenSpec.upto arithProductsSpec)

/-- 'ergolaw02.ArithParts', WHERE WHAT IT READS IS OF BULK AT MOST 1048576: true; the input reads as it did. -/
def arithPartsUptoRow : OpenClaim := { program := "ytfcjiiogigfjkaadoor", sum := "2c3d5d923a27f2a5575add57850e8899626169cd0308449720b6342fdef28887", func := "ergo/ergolaw02.ArithParts", spec := "arithParts", named := ["ergo/arith.signs"], apart := false, laid := [("ergo/arith.signs", laid_ergo_arith_signs)], narrowed := true }
def ArithPartsUptoSaid : Prop := arithPartsUptoRow.holds Tryd.pinned (OpenSpec.upto arithPartsSpec)

/-- 'ergolaw02.ArithBounds', WHERE WHAT IT READS IS OF BULK AT MOST 1048576: true; the input reads as it did. -/
def arithBoundsUptoRow : OpenClaim := { program := "ytfcjiiogigfjkaadoor", sum := "2c3d5d923a27f2a5575add57850e8899626169cd0308449720b6342fdef28887", func := "ergo/ergolaw02.ArithBounds", spec := "arithBounds", named := ["ergo/arith.signs"], apart := false, laid := [("ergo/arith.signs", laid_ergo_arith_signs)], narrowed := true }
def ArithBoundsUptoSaid : Prop := arithBoundsUptoRow.holds Tryd.pinned (OpenSpec.upto arithBoundsSpec)

/-- 'ergolaw02.ArithTotals', WHERE WHAT IT READS IS OF BULK AT MOST 1048576: true; the input reads as it did. -/
def arithTotalsUptoRow : OpenClaim := { program := "ytfcjiiogigfjkaadoor", sum := "2c3d5d923a27f2a5575add57850e8899626169cd0308449720b6342fdef28887", func := "ergo/ergolaw02.ArithTotals", spec := "arithTotals", inPlace := ["math/bits.Add64"], named := ["ergo/arith.signs"], apart := false, laid := [("ergo/arith.signs", laid_ergo_arith_signs)], narrowed := true }
def ArithTotalsUptoSaid : Prop := arithTotalsUptoRow.holds Tryd.pinned (OpenSpec.upto arithTotalsSpec)

/-- 'ergolaw02.ArithLaws', WHERE WHAT IT READS IS OF BULK AT MOST 1048576: true; the input reads as it did. -/
def arithLawsUptoRow : OpenClaim := { program := "ytfcjiiogigfjkaadoor", sum := "2c3d5d923a27f2a5575add57850e8899626169cd0308449720b6342fdef28887", func := "ergo/ergolaw02.ArithLaws", spec := "arithLaws", named := ["ergo/arith.signs"], apart := false, laid := [("ergo/arith.signs", laid_ergo_arith_signs)], narrowed := true }
def ArithLawsUptoSaid : Prop := arithLawsUptoRow.holds Tryd.pinned (OpenSpec.upto arithLawsSpec)

/-- 'ergolaw02.ArithBacks', WHERE WHAT IT READS IS OF BULK AT MOST 1048576: true; the input reads as it did. -/
def arithBacksUptoRow : OpenClaim := { program := "ytfcjiiogigfjkaadoor", sum := "2c3d5d923a27f2a5575add57850e8899626169cd0308449720b6342fdef28887", func := "ergo/ergolaw02.ArithBacks", spec := "arithBacks", named := ["ergo/arith.signs"], apart := false, laid := [("ergo/arith.signs", laid_ergo_arith_signs)], narrowed := true }
def ArithBacksUptoSaid : Prop := arithBacksUptoRow.holds Tryd.pinned (OpenSpec.upto arithBacksSpec)

end Rows
end Go.Proofs.YtfcjiiogigfjkaaDoor
