/- The walk of probes, told of what came in. -/
import Derived.Test.YtenlhojdpjedkaaRArg
import Derived.Test.YtenlhojdpjedkaaIx13
namespace Go.Proofs.Ytenlhojdpjedkaa
open Go.RowKit
theorem probes_walk_is (width : Int) (a : Option Addr) (la ca : Nat) (A : List RV) (ka : Option Addr) (kal kc : Nat) (zkeys : List Int) (qa : Option Addr) (qal qc : Nat) (zκ : List Int) (w : World) (e1 : la = A.length) (h1 : NestArgs w a A) (wkeys : IsRow .i64 w ka kal kc zkeys) (wκ : IsRow .i64 w qa qal qc zκ)
    (hbd : ∀ n, (Lit.int .i64 n).wf = true → -9223372036854775808 ≤ n ∧ n ≤ 9223372036854775807) : Calls Try.prog 3 #[.int .i64 width, .slice a la ca, .slice ka kal kc, .slice qa qal qc] w (TrueRet5 w) := by
  obtain ⟨keys, ekeys, hkeys, _, mkeys⟩ := isRow_row wkeys hbd
  obtain ⟨κ, eκ, hκ, _, mκ⟩ := isRow_row wκ hbd
  subst e1 ekeys eκ
  exact probes_walk width a ca A ka kc keys qa qc κ w h1 hkeys mkeys hκ mκ
end Go.Proofs.Ytenlhojdpjedkaa
