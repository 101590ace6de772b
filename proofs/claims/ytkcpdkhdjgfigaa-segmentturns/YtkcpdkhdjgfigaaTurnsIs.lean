/- The walk of SegmentTurns, told of what came in. -/
import Derived.Test.YtkcpdkhdjgfigaaRArg
import Derived.Test.YtkcpdkhdjgfigaaSg13
namespace Go.Proofs.Ytkcpdkhdjgfigaa
open Go.RowKit
theorem turns_walk_is (width : Int) (a : Option Addr) (len cap : Nat) (A : List RV) (at_ : Int) (w : World) (hl : len = A.length) (hA : NestArgs w a A) (hc : a = none → cap = 0) (hw : -9223372036854775808 ≤ width ∧ width ≤ 9223372036854775807) :
    Calls Try.prog 7 #[.int .i64 width, .slice a len cap, .int .i64 at_] w (TrueRet5 w) := by
  subst hl
  exact turns_walk width a cap A at_ w hA hc hw.1 hw.2
end Go.Proofs.Ytkcpdkhdjgfigaa
