/- The walk of MergeGreat, told of a slice that came in. -/
import Derived.Test.YtkcpdkhdjgfigaaGreat
import Derived.Test.YtkcpdkhdjgfigaaArg
namespace Go.Proofs.Ytkcpdkhdjgfigaa
open Go.RowKit
theorem great_walk_is (a : Option Addr) (len cap : Nat) (zs : List Int) (w : World) (h : IsRow .i64 w a len cap zs) (hbd : ∀ n, (Lit.int .i64 n).wf = true → -9223372036854775808 ≤ n ∧ n ≤ 9223372036854775807) :
    Calls Try.prog 11 #[.slice a len cap] w (TrueRet w) := by
  obtain ⟨ys, rfl, hR, _, hm⟩ := isRow_row h hbd
  exact great_walk a cap ys w hR hm
end Go.Proofs.Ytkcpdkhdjgfigaa
