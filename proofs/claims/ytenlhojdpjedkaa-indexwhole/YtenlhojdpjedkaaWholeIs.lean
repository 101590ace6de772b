/- The walk of whole, told of what came in. -/
import Derived.Test.YtenlhojdpjedkaaRArg
import Derived.Test.YtenlhojdpjedkaaIx12
namespace Go.Proofs.Ytenlhojdpjedkaa
open Go.RowKit
theorem whole_walk_is (width : Int) (a : Option Addr) (la ca : Nat) (A : List RV) (ka : Option Addr) (kal kc : Nat) (zkeys : List Int) (w : World) (e1 : la = A.length) (h1 : NestArgs w a A) (wkeys : IsRow .i64 w ka kal kc zkeys)
    (hbd : ∀ n, (Lit.int .i64 n).wf = true → -9223372036854775808 ≤ n ∧ n ≤ 9223372036854775807) : Calls Try.prog 6 #[.int .i64 width, .slice a la ca, .slice ka kal kc] w (TrueRet5 w) := by
  obtain ⟨keys, ekeys, hkeys, _, mkeys⟩ := isRow_row wkeys hbd
  subst e1 ekeys
  exact whole_walk width a ca A ka kc keys w h1 hkeys mkeys
end Go.Proofs.Ytenlhojdpjedkaa
