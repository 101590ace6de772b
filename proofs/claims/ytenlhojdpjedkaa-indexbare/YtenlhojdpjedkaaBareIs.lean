/- The walk of bare, told of what came in. -/
import Derived.Test.YtenlhojdpjedkaaRArg
import Derived.Test.YtenlhojdpjedkaaIx10
namespace Go.Proofs.Ytenlhojdpjedkaa
open Go.RowKit
theorem bare_walk_is (width : Int) (a : Option Addr) (la ca : Nat) (A : List RV) (ka : Option Addr) (kal kc : Nat) (zκ : List Int) (w : World) (e1 : la = A.length) (h1 : NestArgs w a A) (wκ : IsRow .i64 w ka kal kc zκ)
    (hbd : ∀ n, (Lit.int .i64 n).wf = true → -9223372036854775808 ≤ n ∧ n ≤ 9223372036854775807) : Calls Try.prog 5 #[.int .i64 width, .slice a la ca, .slice ka kal kc] w (TrueRet5 w) := by
  obtain ⟨κ, eκ, hκ, _, mκ⟩ := isRow_row wκ hbd
  subst e1 eκ
  exact bare_walk width a ca A ka kc κ w h1 hκ mκ
end Go.Proofs.Ytenlhojdpjedkaa
