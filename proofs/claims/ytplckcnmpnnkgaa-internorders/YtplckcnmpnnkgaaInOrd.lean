/- InternOrders, of a slice of texts that came in. -/
import Derived.Test.YtplckcnmpnnkgaaIn6
import Derived.Test.YtplckcnmpnnkgaaInArg
namespace Go.Proofs.Ytplckcnmpnnkgaa
open Go.RowKit
theorem orders_walk_is (a : Option Addr) (len cap : Nat) (zs : List ByteArray) (x y : Int) (w : World) (h : IsStrs w a len cap zs) (hx1 : -9223372036854775808 ≤ x) (hx2 : x ≤ 9223372036854775807) (hy1 : -9223372036854775808 ≤ y) (hy2 : y ≤ 9223372036854775807) :
    Calls Try.prog 4 #[.slice a len cap, .int .i64 x, .int .i64 y] w (TrueRet w) := by
  obtain ⟨ts, rfl, hR, hl, hs⟩ := isStrs_row h
  exact orders_walk a cap ts x y w hR hl hs hx1 hx2 hy1 hy2
end Go.Proofs.Ytplckcnmpnnkgaa
