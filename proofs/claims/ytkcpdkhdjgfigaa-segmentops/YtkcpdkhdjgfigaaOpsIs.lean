/- The walk of SegmentOps, told of what came in. -/
import Derived.Test.YtkcpdkhdjgfigaaRArg
import Derived.Test.YtkcpdkhdjgfigaaSg25
namespace Go.Proofs.Ytkcpdkhdjgfigaa
open Go.RowKit
theorem ops_walk_is (width : Int) (a : Option Addr) (la ca : Nat) (A1 : List RV) (b : Option Addr) (lb cb : Nat) (A2 : List RV) (w : World) (e1 : la = A1.length) (h1 : NestArgs w a A1) (e2 : lb = A2.length) (h2 : NestArgs w b A2) :
    Calls Try.prog 4 #[.int .i64 width, .slice a la ca, .slice b lb cb] w (TrueRet5 w) := by
  subst e1 e2
  exact ops_walk width a b ca cb A1 A2 w h1 h2
end Go.Proofs.Ytkcpdkhdjgfigaa
