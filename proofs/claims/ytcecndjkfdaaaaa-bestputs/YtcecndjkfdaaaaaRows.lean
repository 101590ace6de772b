/-
  No cell of these rows narrows 'for every input' (looked for: loops, veiled, ifaces, maps, wideKeys, modest, calm, conditions, laid).
  DERIVED. THE GIVEN ROWS OF THIS SEAT. 9 by the template 'for every input the law returns true; each argument reads behind the call as it read before'; 0 by the template 'total and deterministic' (their statements: YtcecndjkfdaaaaaTotals.lean).
  GIVEN WITH THE SEED: the statements are not yours to turn. If you find one false, say at which input.
  Laid BY PROGRAM, IN A SANDBOX (cutbox-rows.mjs): the forced cells as the released guide's own fill.sh prints them over the translation b35c3d834c105a2e… (all of the seat's roots in one cut). By AI agents, Wed Nov 11 2026. No macro, syntax, notation, axiom, sorry.
-/
import Derived.Test.YtcecndjkfdaaaaaChecked
import GoSem.Claim
import GoSem.ClaimJoined
import GoSem.ClaimMapViews
import Derived.JoinedTies
import Derived.KernelRfl
namespace Go.Proofs.Ytcecndjkfdaaaaa
/- THE CELL 'sum', in the pinned program and in every row, IS THE sha256 OF THE DUMP (.gsa) THAT YtcecndjkfdaaaaaProg.lean LOADS. Nothing in Lean hashes anything: it is a label: what it is worth is what the hold of that sum in a sandbox is worth. -/
noncomputable def Try.pinned : Pinned := { name := "ytcecndjkfdaaaaa", sum := "b35c3d834c105a2e6f0d69138a27bea7855303a71a7323faf3791ded7186caf4", checked := Try.checked }
namespace Rows
def none {H : Type} : Left H := { results := [], args := [] }

/-- 'ergolaw08.JoinPairs': WHATEVER THE INPUT: true; the input reads as it did. -/
def joinPairsSpec : ChangeSpec := { name := "joinPairs", fn := fun _ => fun
  | [d1, d2] => { results := [.lit (.bool true)], args := [d1, d2] }
  | _ => none }
def joinPairsRow : OpenClaim := { program := "ytcecndjkfdaaaaa", sum := "b35c3d834c105a2e6f0d69138a27bea7855303a71a7323faf3791ded7186caf4", func := "ergo/ergolaw08.JoinPairs", spec := "joinPairs", unfollowed := true, recurses := true, apart := false }
def JoinPairsSaid : Prop := joinPairsRow.holds Try.pinned (OpenSpec.ofChange joinPairsSpec)

/-- ITS FALSE NEIGHBOUR: 'it returns false'. Refute it at one input. -/
def joinPairsWrong : ChangeSpec := { name := "joinPairs", fn := fun _ => fun
  | [d1, d2] => { results := [.lit (.bool false)], args := [d1, d2] }
  | _ => none }
def JoinPairsWrongFalsely : Prop := joinPairsRow.holds Try.pinned (OpenSpec.ofChange joinPairsWrong)

/-- 'ergolaw08.JoinSemis': WHATEVER THE INPUT: true; the input reads as it did. -/
def joinSemisSpec : ChangeSpec := { name := "joinSemis", fn := fun _ => fun
  | [d] => { results := [.lit (.bool true)], args := [d] }
  | _ => none }
def joinSemisRow : OpenClaim := { program := "ytcecndjkfdaaaaa", sum := "b35c3d834c105a2e6f0d69138a27bea7855303a71a7323faf3791ded7186caf4", func := "ergo/ergolaw08.JoinSemis", spec := "joinSemis", unfollowed := true, recurses := true, apart := false }
def JoinSemisSaid : Prop := joinSemisRow.holds Try.pinned (OpenSpec.ofChange joinSemisSpec)

/-- ITS FALSE NEIGHBOUR: 'it returns false'. Refute it at one input. -/
def joinSemisWrong : ChangeSpec := { name := "joinSemis", fn := fun _ => fun
  | [d] => { results := [.lit (.bool false)], args := [d] }
  | _ => none }
def JoinSemisWrongFalsely : Prop := joinSemisRow.holds Try.pinned (OpenSpec.ofChange joinSemisWrong)

/-- 'ergolaw08.JoinTurned': WHATEVER THE INPUT: true; the input reads as it did. -/
def joinTurnedSpec : ChangeSpec := { name := "joinTurned", fn := fun _ => fun
  | [d] => { results := [.lit (.bool true)], args := [d] }
  | _ => none }
def joinTurnedRow : OpenClaim := { program := "ytcecndjkfdaaaaa", sum := "b35c3d834c105a2e6f0d69138a27bea7855303a71a7323faf3791ded7186caf4", func := "ergo/ergolaw08.JoinTurned", spec := "joinTurned", unfollowed := true, recurses := true, apart := false }
def JoinTurnedSaid : Prop := joinTurnedRow.holds Try.pinned (OpenSpec.ofChange joinTurnedSpec)

/-- ITS FALSE NEIGHBOUR: 'it returns false'. Refute it at one input. -/
def joinTurnedWrong : ChangeSpec := { name := "joinTurned", fn := fun _ => fun
  | [d] => { results := [.lit (.bool false)], args := [d] }
  | _ => none }
def JoinTurnedWrongFalsely : Prop := joinTurnedRow.holds Try.pinned (OpenSpec.ofChange joinTurnedWrong)

/-- 'ergolaw08.JoinMany': WHATEVER THE INPUT: true; the input reads as it did. -/
def joinManySpec : ChangeSpec := { name := "joinMany", fn := fun _ => fun
  | [d1, d2, d3] => { results := [.lit (.bool true)], args := [d1, d2, d3] }
  | _ => none }
def joinManyRow : OpenClaim := { program := "ytcecndjkfdaaaaa", sum := "b35c3d834c105a2e6f0d69138a27bea7855303a71a7323faf3791ded7186caf4", func := "ergo/ergolaw08.JoinMany", spec := "joinMany", unfollowed := true, recurses := true, apart := false }
def JoinManySaid : Prop := joinManyRow.holds Try.pinned (OpenSpec.ofChange joinManySpec)

/-- ITS FALSE NEIGHBOUR: 'it returns false'. Refute it at one input. -/
def joinManyWrong : ChangeSpec := { name := "joinMany", fn := fun _ => fun
  | [d1, d2, d3] => { results := [.lit (.bool false)], args := [d1, d2, d3] }
  | _ => none }
def JoinManyWrongFalsely : Prop := joinManyRow.holds Try.pinned (OpenSpec.ofChange joinManyWrong)

/-- 'ergolaw08.JoinParts': WHATEVER THE INPUT: true; the input reads as it did. -/
def joinPartsSpec : ChangeSpec := { name := "joinParts", fn := fun _ => fun
  | [d1, d2] => { results := [.lit (.bool true)], args := [d1, d2] }
  | _ => none }
def joinPartsRow : OpenClaim := { program := "ytcecndjkfdaaaaa", sum := "b35c3d834c105a2e6f0d69138a27bea7855303a71a7323faf3791ded7186caf4", func := "ergo/ergolaw08.JoinParts", spec := "joinParts", unfollowed := true, recurses := true, apart := false }
def JoinPartsSaid : Prop := joinPartsRow.holds Try.pinned (OpenSpec.ofChange joinPartsSpec)

/-- ITS FALSE NEIGHBOUR: 'it returns false'. Refute it at one input. -/
def joinPartsWrong : ChangeSpec := { name := "joinParts", fn := fun _ => fun
  | [d1, d2] => { results := [.lit (.bool false)], args := [d1, d2] }
  | _ => none }
def JoinPartsWrongFalsely : Prop := joinPartsRow.holds Try.pinned (OpenSpec.ofChange joinPartsWrong)

/-- 'ergolaw10.BestPuts': WHATEVER THE INPUT: true; the input reads as it did. -/
def bestPutsSpec : ChangeSpec := { name := "bestPuts", fn := fun _ => fun
  | [d1, d2, d3, d4] => { results := [.lit (.bool true)], args := [d1, d2, d3, d4] }
  | _ => none }
def bestPutsRow : OpenClaim := { program := "ytcecndjkfdaaaaa", sum := "b35c3d834c105a2e6f0d69138a27bea7855303a71a7323faf3791ded7186caf4", func := "ergo/ergolaw10.BestPuts", spec := "bestPuts", unfollowed := true, recurses := true, apart := false }
def BestPutsSaid : Prop := bestPutsRow.holds Try.pinned (OpenSpec.ofChange bestPutsSpec)

/-- ITS FALSE NEIGHBOUR: 'it returns false'. Refute it at one input. -/
def bestPutsWrong : ChangeSpec := { name := "bestPuts", fn := fun _ => fun
  | [d1, d2, d3, d4] => { results := [.lit (.bool false)], args := [d1, d2, d3, d4] }
  | _ => none }
def BestPutsWrongFalsely : Prop := bestPutsRow.holds Try.pinned (OpenSpec.ofChange bestPutsWrong)

/-- 'ergolaw10.BestAdds': WHATEVER THE INPUT: true; the input reads as it did. -/
def bestAddsSpec : ChangeSpec := { name := "bestAdds", fn := fun _ => fun
  | [d1, d2, d3] => { results := [.lit (.bool true)], args := [d1, d2, d3] }
  | _ => none }
def bestAddsRow : OpenClaim := { program := "ytcecndjkfdaaaaa", sum := "b35c3d834c105a2e6f0d69138a27bea7855303a71a7323faf3791ded7186caf4", func := "ergo/ergolaw10.BestAdds", spec := "bestAdds", unfollowed := true, recurses := true, apart := false }
def BestAddsSaid : Prop := bestAddsRow.holds Try.pinned (OpenSpec.ofChange bestAddsSpec)

/-- ITS FALSE NEIGHBOUR: 'it returns false'. Refute it at one input. -/
def bestAddsWrong : ChangeSpec := { name := "bestAdds", fn := fun _ => fun
  | [d1, d2, d3] => { results := [.lit (.bool false)], args := [d1, d2, d3] }
  | _ => none }
def BestAddsWrongFalsely : Prop := bestAddsRow.holds Try.pinned (OpenSpec.ofChange bestAddsWrong)

/-- 'ergolaw10.BestOrders': WHATEVER THE INPUT: true; the input reads as it did. -/
def bestOrdersSpec : ChangeSpec := { name := "bestOrders", fn := fun _ => fun
  | [d1, d2, d3, d4, d5] => { results := [.lit (.bool true)], args := [d1, d2, d3, d4, d5] }
  | _ => none }
def bestOrdersRow : OpenClaim := { program := "ytcecndjkfdaaaaa", sum := "b35c3d834c105a2e6f0d69138a27bea7855303a71a7323faf3791ded7186caf4", func := "ergo/ergolaw10.BestOrders", spec := "bestOrders", unfollowed := true, recurses := true, apart := false }
def BestOrdersSaid : Prop := bestOrdersRow.holds Try.pinned (OpenSpec.ofChange bestOrdersSpec)

/-- ITS FALSE NEIGHBOUR: 'it returns false'. Refute it at one input. -/
def bestOrdersWrong : ChangeSpec := { name := "bestOrders", fn := fun _ => fun
  | [d1, d2, d3, d4, d5] => { results := [.lit (.bool false)], args := [d1, d2, d3, d4, d5] }
  | _ => none }
def BestOrdersWrongFalsely : Prop := bestOrdersRow.holds Try.pinned (OpenSpec.ofChange bestOrdersWrong)

/-- 'ergolaw10.BestAgain': WHATEVER THE INPUT: true; the input reads as it did. -/
def bestAgainSpec : ChangeSpec := { name := "bestAgain", fn := fun _ => fun
  | [d1, d2, d3] => { results := [.lit (.bool true)], args := [d1, d2, d3] }
  | _ => none }
def bestAgainRow : OpenClaim := { program := "ytcecndjkfdaaaaa", sum := "b35c3d834c105a2e6f0d69138a27bea7855303a71a7323faf3791ded7186caf4", func := "ergo/ergolaw10.BestAgain", spec := "bestAgain", unfollowed := true, recurses := true, apart := false }
def BestAgainSaid : Prop := bestAgainRow.holds Try.pinned (OpenSpec.ofChange bestAgainSpec)

/-- ITS FALSE NEIGHBOUR: 'it returns false'. Refute it at one input. -/
def bestAgainWrong : ChangeSpec := { name := "bestAgain", fn := fun _ => fun
  | [d1, d2, d3] => { results := [.lit (.bool false)], args := [d1, d2, d3] }
  | _ => none }
def BestAgainWrongFalsely : Prop := bestAgainRow.holds Try.pinned (OpenSpec.ofChange bestAgainWrong)

/- THE SECOND FORM. 'bulk': how many values and letters a reading holds, each counted each time it is reached (what is shared counts as often as it is met; a slice's spare places count too). A statement '..UptoSaid' is the law's where the arguments, and the package variables that the reading takes, are together of bulk at most 1048576: NARROWER than '..Said'. Prove '..Said' where nothing that the law and all that it calls make is longer than what came in: it says more and counts as full. Else prove '..UptoSaid'. A law counts once. -/
mutual
def uptoBulk {H : Type} : DataW H → Nat
  | .lit (.string bytes) => bytes.length + 1
  | .lit _ => 1
  | .nil => 1
  | .ptr d => uptoBulk d + 1
  | .slice elems spare => uptoBulkAll elems + uptoBulkAll spare + 1
  | .agg parts => uptoBulkAll parts + 1
  | .iface _ d => uptoBulk d + 1
  | .map entries => uptoBulkEntries entries + 1
  | .held _ => 1
def uptoBulkAll {H : Type} : List (DataW H) → Nat
  | [] => 0
  | d :: r => uptoBulk d + uptoBulkAll r
def uptoBulkEntries {H : Type} : List (Lit × DataW H) → Nat
  | [] => 0
  | x :: r => uptoBulkEntry x + uptoBulkEntries r
def uptoBulkEntry {H : Type} : Lit × DataW H → Nat
  | (.string bytes, d) => bytes.length + uptoBulk d + 1
  | (_, d) => uptoBulk d + 1
 end
def uptoSmall : (H : Type) → List (DataW H) → Bool := fun _ ds => decide (uptoBulkAll ds ≤ 1048576)
def OpenSpec.upto (s : _root_.Go.ChangeSpec) : _root_.Go.OpenSpec := { _root_.Go.OpenSpec.ofChange s with cond := some uptoSmall }

/-- 'ergolaw08.JoinPairs', WHERE WHAT IT READS IS OF BULK AT MOST 1048576: true; the input reads as it did. -/
def joinPairsUptoRow : OpenClaim := { program := "ytcecndjkfdaaaaa", sum := "b35c3d834c105a2e6f0d69138a27bea7855303a71a7323faf3791ded7186caf4", func := "ergo/ergolaw08.JoinPairs", spec := "joinPairs", unfollowed := true, recurses := true, apart := false, narrowed := true }
def JoinPairsUptoSaid : Prop := joinPairsUptoRow.holds Try.pinned (OpenSpec.upto joinPairsSpec)

/-- 'ergolaw08.JoinSemis', WHERE WHAT IT READS IS OF BULK AT MOST 1048576: true; the input reads as it did. -/
def joinSemisUptoRow : OpenClaim := { program := "ytcecndjkfdaaaaa", sum := "b35c3d834c105a2e6f0d69138a27bea7855303a71a7323faf3791ded7186caf4", func := "ergo/ergolaw08.JoinSemis", spec := "joinSemis", unfollowed := true, recurses := true, apart := false, narrowed := true }
def JoinSemisUptoSaid : Prop := joinSemisUptoRow.holds Try.pinned (OpenSpec.upto joinSemisSpec)

/-- 'ergolaw08.JoinTurned', WHERE WHAT IT READS IS OF BULK AT MOST 1048576: true; the input reads as it did. -/
def joinTurnedUptoRow : OpenClaim := { program := "ytcecndjkfdaaaaa", sum := "b35c3d834c105a2e6f0d69138a27bea7855303a71a7323faf3791ded7186caf4", func := "ergo/ergolaw08.JoinTurned", spec := "joinTurned", unfollowed := true, recurses := true, apart := false, narrowed := true }
def JoinTurnedUptoSaid : Prop := joinTurnedUptoRow.holds Try.pinned (OpenSpec.upto joinTurnedSpec)

/-- 'ergolaw08.JoinMany', WHERE WHAT IT READS IS OF BULK AT MOST 1048576: true; the input reads as it did. -/
def joinManyUptoRow : OpenClaim := { program := "ytcecndjkfdaaaaa", sum := "b35c3d834c105a2e6f0d69138a27bea7855303a71a7323faf3791ded7186caf4", func := "ergo/ergolaw08.JoinMany", spec := "joinMany", unfollowed := true, recurses := true, apart := false, narrowed := true }
def JoinManyUptoSaid : Prop := joinManyUptoRow.holds Try.pinned (OpenSpec.upto joinManySpec)

/-- 'ergolaw08.JoinParts', WHERE WHAT IT READS IS OF BULK AT MOST 1048576: true; the input reads as it did. -/
def joinPartsUptoRow : OpenClaim := { program := "ytcecndjkfdaaaaa", sum := "b35c3d834c105a2e6f0d69138a27bea7855303a71a7323faf3791ded7186caf4", func := "ergo/ergolaw08.JoinParts", spec := "joinParts", unfollowed := true, recurses := true, apart := false, narrowed := true }
def JoinPartsUptoSaid : Prop := joinPartsUptoRow.holds Try.pinned (OpenSpec.upto joinPartsSpec)

/-- 'ergolaw10.BestPuts', WHERE WHAT IT READS IS OF BULK AT MOST 1048576: true; the input reads as it did. -/
def bestPutsUptoRow : OpenClaim := { program := "ytcecndjkfdaaaaa", sum := "b35c3d834c105a2e6f0d69138a27bea7855303a71a7323faf3791ded7186caf4", func := "ergo/ergolaw10.BestPuts", spec := "bestPuts", unfollowed := true, recurses := true, apart := false, narrowed := true }
def BestPutsUptoSaid : Prop := bestPutsUptoRow.holds Try.pinned (OpenSpec.upto bestPutsSpec)

/-- 'ergolaw10.BestAdds', WHERE WHAT IT READS IS OF BULK AT MOST 1048576: true; the input reads as it did. -/
def bestAddsUptoRow : OpenClaim := { program := "ytcecndjkfdaaaaa", sum := "b35c3d834c105a2e6f0d69138a27bea7855303a71a7323faf3791ded7186caf4", func := "ergo/ergolaw10.BestAdds", spec := "bestAdds", unfollowed := true, recurses := true, apart := false, narrowed := true }
def BestAddsUptoSaid : Prop := bestAddsUptoRow.holds Try.pinned (OpenSpec.upto bestAddsSpec)

/-- 'ergolaw10.BestOrders', WHERE WHAT IT READS IS OF BULK AT MOST 1048576: true; the input reads as it did. -/
def bestOrdersUptoRow : OpenClaim := { program := "ytcecndjkfdaaaaa", sum := "b35c3d834c105a2e6f0d69138a27bea7855303a71a7323faf3791ded7186caf4", func := "ergo/ergolaw10.BestOrders", spec := "bestOrders", unfollowed := true, recurses := true, apart := false, narrowed := true }
def BestOrdersUptoSaid : Prop := bestOrdersUptoRow.holds Try.pinned (OpenSpec.upto bestOrdersSpec)

/-- 'ergolaw10.BestAgain', WHERE WHAT IT READS IS OF BULK AT MOST 1048576: true; the input reads as it did. -/
def bestAgainUptoRow : OpenClaim := { program := "ytcecndjkfdaaaaa", sum := "b35c3d834c105a2e6f0d69138a27bea7855303a71a7323faf3791ded7186caf4", func := "ergo/ergolaw10.BestAgain", spec := "bestAgain", unfollowed := true, recurses := true, apart := false, narrowed := true }
def BestAgainUptoSaid : Prop := bestAgainUptoRow.holds Try.pinned (OpenSpec.upto bestAgainSpec)

end Rows
end Go.Proofs.Ytcecndjkfdaaaaa
