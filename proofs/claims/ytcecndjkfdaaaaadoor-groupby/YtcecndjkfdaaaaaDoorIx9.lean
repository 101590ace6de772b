/- The head of the statements of layer 7; what the walks are told. -/
import Derived.Test.YtcecndjkfdaaaaaDoorIx8
namespace Go.Proofs.YtcecndjkfdaaaaaDoor
open Go.RowKit
set_option linter.unusedVariables false
set_option linter.unusedSimpArgs false

def NestArgs (w : World) (a : Option Addr) (A : List RV) : Prop := RRow w a A ∧ A.length ≤ maxLen ∧ ∀ x ∈ A, x.2.1.length ≤ maxLen
theorem width5 (x : Int) : ∃ wd : Nat, wd ≤ 4 ∧ wrap64 ((IntKind.u64.wrap x).tmod 5) = (wd : Int) := by
  have h1 : 0 ≤ IntKind.u64.wrap x := by simp [IntKind.wrap, IntKind.bits, IntKind.signed]; omega
  have h2 : (IntKind.u64.wrap x).tmod 5 = IntKind.u64.wrap x % 5 := Int.tmod_eq_emod_of_nonneg h1
  rw [h2]
  obtain ⟨y, hy⟩ : ∃ y, IntKind.u64.wrap x % 5 = y := ⟨_, rfl⟩
  have h3 : 0 ≤ y ∧ y < 5 := by omega
  rw [hy]
  exact ⟨y.toNat, by omega, by unfold wrap64; omega⟩
/-- A relation of at most n rows. -/
def SB (n : Nat) (w : World) (p : Option Addr) (wd : Nat) (xs : List (List Int)) : Prop := Seg w p wd xs ∧ xs.length ≤ n
theorem SB.below {n : Nat} {w w' : World} {p : Option Addr} {wd : Nat} {xs : List (List Int)} (h : SB n w p wd xs) (hb : Below w.heap.size w w') : SB n w' p wd xs := ⟨h.1.below hb, h.2⟩
theorem SB.belowB {n : Nat} {w w' : World} {B : Nat} {p : Option Addr} {wd : Nat} {xs : List (List Int)} (h : SB n w p wd xs) (hB : w.heap.size = B) (hb : Below B w w') : SB n w' p wd xs := by subst hB; exact h.below hb
def BRet (n : Nat) (w : World) (wd : Nat) (xs : List (List Int)) (e : Ending) (w' : World) : Prop := ∃ p, e = .returned (.pointer p) ∧ SB n w' p wd xs ∧ Below w.heap.size w w'
theorem few_w {w W : World} {B : Nat} {a : Option Addr} {A : List RV} (cap : Nat) (h : NestArgs w a A) (hB : w.heap.size = B) (hb : Below B w W) : Calls Tryd.prog 11 #[.slice a A.length cap] W fun e w' => e = .returned (.bool (fewB A)) ∧ W = w' :=
  few_calls a cap A W (h.1.belowB hB hb) h.2.1 h.2.2
theorem make_w {w W : World} {B : Nat} {a : Option Addr} {A : List RV} (cap wd : Nat) (h : NestArgs w a A) (hB : w.heap.size = B) (hb : Below B w W) (hf : A.length ≤ 60 ∧ ∀ x ∈ A, x.2.1.length ≤ 8) (hwd : wd ≤ 1000) : Calls Tryd.prog 12 #[.int .i64 wd, .slice a A.length cap] W (BRet 60 W wd (relOf wd (A.map (·.2.1)))) :=
  (make_calls wd a cap A W (h.1.belowB hB hb) hwd (by omega) (fun x hx => by have := hf.2 x hx; omega)).mono fun e w' ⟨p, h1, h2, h3⟩ => ⟨p, h1, ⟨h2, Nat.le_trans (rel_len _ _) (by simp; exact hf.1)⟩, h3⟩
theorem row1 {w : World} {b : Nat} {x : Int} (h0 : w.cell? ⟨b, 0, none⟩ = some (.int .i64 x)) (hb : b < w.heap.size) : Row w (some ⟨b, 0, none⟩) [x] :=
  .inr ⟨b, 0, rfl, hb, fun i hi => by match i, hi with | 0, _ => exact h0⟩
theorem row1_new (w : World) (x : Int) (t : TypeId) : Row (w.alloc (.cells #[.int .i64 x] t)) (some ⟨w.heap.size, 0, none⟩) [x] := row1 (by go_simp) (by simp)
theorem seg_none (w : World) : Seg w none 0 [] := ⟨List.Pairwise.nil, (fun r hr => by cases hr), .inl ⟨rfl, rfl, rfl⟩⟩

end Go.Proofs.YtcecndjkfdaaaaaDoor
