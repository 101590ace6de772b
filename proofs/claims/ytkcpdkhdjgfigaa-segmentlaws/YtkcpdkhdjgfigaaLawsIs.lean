/- The walk of SegmentLaws, told of what came in. -/
import Derived.Test.YtkcpdkhdjgfigaaRArg
import Derived.Test.YtkcpdkhdjgfigaaSg21
namespace Go.Proofs.Ytkcpdkhdjgfigaa
open Go.RowKit
theorem laws_walk_is (width : Int) (a : Option Addr) (la ca : Nat) (A1 : List RV) (b : Option Addr) (lb cb : Nat) (A2 : List RV) (c : Option Addr) (lc cc : Nat) (A3 : List RV) (w : World) (e1 : la = A1.length) (h1 : NestArgs w a A1) (e2 : lb = A2.length) (h2 : NestArgs w b A2) (e3 : lc = A3.length) (h3 : NestArgs w c A3) :
    Calls Try.prog 5 #[.int .i64 width, .slice a la ca, .slice b lb cb, .slice c lc cc] w (TrueRet5 w) := by
  subst e1 e2 e3
  exact laws_walk width a b c ca cb cc A1 A2 A3 w h1 h2 h3
end Go.Proofs.Ytkcpdkhdjgfigaa
