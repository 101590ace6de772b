/- InternApart, of slices of texts that came in. -/
import Derived.Test.YtplckcnmpnnkgaaIn10
import Derived.Test.YtplckcnmpnnkgaaInArg
namespace Go.Proofs.Ytplckcnmpnnkgaa
open Go.RowKit
theorem isStrs_cap {w : World} {a : Option Addr} {len cap : Nat} {zs : List ByteArray} (h : IsStrs w a len cap zs) : a = none → cap = 0 := by
  intro e
  rcases h with ⟨_, _, h, _⟩ | ⟨x, h, _⟩
  · exact h
  · rw [h] at e; cases e
theorem apart_walk_is (a : Option Addr) (len cap : Nat) (zs : List ByteArray) (c : Option Addr) (len' cap' : Nat) (ys : List ByteArray) (o : ByteArray) (w : World) (h : IsStrs w a len cap zs) (h' : IsStrs w c len' cap' ys) (ho : o.size ≤ maxLen) :
    Calls Try.prog 5 #[.slice a len cap, .slice c len' cap', .string o] w (TrueRet w) := by
  have e1 := isStrs_cap h
  have e2 := isStrs_cap h'
  obtain ⟨ts, rfl, hR, hl, hs⟩ := isStrs_row h
  obtain ⟨us, rfl, hM, hl', hs'⟩ := isStrs_row h'
  exact apart_walk a c cap cap' ts us o w hR hM e1 e2 hl hl' hs hs' ho
end Go.Proofs.Ytplckcnmpnnkgaa
