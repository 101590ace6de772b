/- The walk of SegmentFinds, told of what came in. -/
import Derived.Test.YtkcpdkhdjgfigaaRArg
import Derived.Test.YtkcpdkhdjgfigaaSg15
namespace Go.Proofs.Ytkcpdkhdjgfigaa
open Go.RowKit
theorem finds_walk_is (width : Int) (a : Option Addr) (len cap : Nat) (A : List RV) (pa : Option Addr) (pl pc : Nat) (zs : List Int) (w : World) (hl : len = A.length) (hA : NestArgs w a A) (hz : IsRow .i64 w pa pl pc zs) (hw : -9223372036854775808 ≤ width ∧ width ≤ 9223372036854775807)
    (hbd : ∀ n, (Lit.int .i64 n).wf = true → -9223372036854775808 ≤ n ∧ n ≤ 9223372036854775807) : Calls Try.prog 3 #[.int .i64 width, .slice a len cap, .slice pa pl pc] w (TrueRet5 w) := by
  obtain ⟨h3, h4⟩ := isRow_cap hz
  obtain ⟨ys, e2, hR, _, hml'⟩ := isRow_row hz hbd
  subst e2 hl
  exact finds_walk width a cap A pa pc ys w hA hR h3 hml' hw.1 hw.2
end Go.Proofs.Ytkcpdkhdjgfigaa
