/- Two lists of rows of the call's own; masks. -/
import Derived.Test.YtcecndjkfdaaaaaUl
namespace Go.Proofs.Ytcecndjkfdaaaaa
open Go.RowKit
set_option linter.unusedVariables false
set_option linter.unusedSimpArgs false

theorem maskE (x : Int) (k : Nat) (hk : k ≤ 20) (y : Int) (hy : y = 2 ^ k - 1) : ∃ m : Nat, m < 2 ^ k ∧ bits .and .i64 x y = (m : Int) := by
  have hp : (2 : Nat) ^ k ≤ 2 ^ 20 := Nat.pow_le_pow_right (by omega) hk
  have hp1 : 1 ≤ (2 : Nat) ^ k := Nat.one_le_two_pow
  have hc : ((2 : Int) ^ k) = ((2 ^ k : Nat) : Int) := by simp
  have e : (BitVec.ofInt 64 y).toNat = 2 ^ k - 1 := by
    rw [ofInt_toNat, hy, hc]; omega
  refine ⟨(x % 18446744073709551616).toNat % 2 ^ k, Nat.mod_lt _ (by omega), ?_⟩
  show IntKind.i64.wrap ((BitVec.ofInt 64 x &&& BitVec.ofInt 64 y).toNat : Int) = _
  rw [BitVec.toNat_and, ofInt_toNat, e, Nat.and_two_pow_sub_one_eq_mod, IntKind.wrap_i64]
  have : (x % 18446744073709551616).toNat % 2 ^ k < 2 ^ k := Nat.mod_lt _ (by omega)
  omega
/-- Two lists of rows of the call's own, side by side. -/
structure UL2 (B : Nat) (w : World) (v1 v2 : Value) (L1 L2 : List RV) : Prop where
  u1 : UL B w v1 L1
  u2 : UL B w v2 L2
  ne : ∀ b, v1.ownBlock = some b → v2.ownBlock ≠ some b
  x1 : ∀ x ∈ L1, ∀ p, x.1 = some p → v2.ownBlock ≠ some p.block
  x2 : ∀ x ∈ L2, ∀ p, x.1 = some p → v1.ownBlock ≠ some p.block
theorem UL2.symm {B : Nat} {w : World} {v1 v2 : Value} {L1 L2 : List RV} (h : UL2 B w v1 v2 L1 L2) : UL2 B w v2 v1 L2 L1 := ⟨h.u2, h.u1, fun b h1 h2 => h.ne b h2 h1, h.x2, h.x1⟩
theorem UL2.below {B : Nat} {w w' : World} {v1 v2 : Value} {L1 L2 : List RV} (h : UL2 B w v1 v2 L1 L2) (hb : Below w.heap.size w w') : UL2 B w' v1 v2 L1 L2 := ⟨h.u1.below hb, h.u2.below hb, h.ne, h.x1, h.x2⟩
theorem UL2.push {B : Nat} {w w2 : World} {v1 v2 v' : Value} {L1 L2 : List RV} (h : UL2 B w v1 v2 L1 L2) {x : RV} {o : Obj} (hrow : Row w x.1 x.2.1) (hcap : x.2.1.length ≤ x.2.2) (hf : ∀ p, x.1 = some p → p.block < w.heap.size ∧ v1.ownBlock ≠ some p.block ∧ v2.ownBlock ≠ some p.block)
    (hown : w2.ownsRow B 40 1 v' (L1.length + 1) (L1.map encV ++ [encV x])) (hgrow : (w.alloc o).grownBy w2 v1.ownBlock) (hat : v'.ownBlock = v1.ownBlock ∨ v'.ownBlock = some (w.alloc o).heap.size) : UL2 B w2 v' v2 (L1 ++ [x]) L2 := by
  have k : Keeps (fun b => v1.ownBlock = some b) w w2 := ((Keeps.refl (fun b => v1.ownBlock = some b) w).alloc o).trans (Keeps.of_grown hgrow (fun b hb => hb))
  refine ⟨h.u1.push hrow hcap (fun p hp => ⟨(hf p hp).1, (hf p hp).2.1⟩) hown hgrow hat, h.u2.keeps k (fun b hb hN => h.ne b hN hb) (fun y hy p hp hN => h.x2 y hy p hp hN), fun b hb e => ?_, fun y hy p hp => ?_, fun y hy p hp e => ?_⟩
  · rcases hat with e1 | e1
    · rw [e1] at hb; exact h.ne b hb e
    · rw [e1] at hb; simp at hb; have := (h.u2.own.lt _ e).2; omega
  · rcases List.mem_append.1 hy with h1 | h1
    · exact h.x1 y h1 p hp
    · obtain rfl : y = x := by simpa using h1
      exact (hf p hp).2.2
  · rcases hat with e1 | e1
    · rw [e1] at e; exact h.x2 y hy p hp e
    · rw [e1] at e; simp at e; have := ((h.u2.rows y hy).2 p hp).1; omega
theorem UL2.new {C : Nat} {W : World} (hC : W.heap.size = C) : UL2 C ((W.alloc (.cells #[] 40)).alloc (.cells #[] 40)) (.slice (some ⟨C, 0, none⟩) 0 0) (.slice (some ⟨C + 1, 0, none⟩) 0 0) [] [] := by
  subst hC
  refine ⟨(UL.nil _ W (Nat.le_refl _)).below ((Below.refl _ _).alloc (Nat.le_refl _) _), ?_, fun b h1 h2 => ?_, (fun x hx => by cases hx), (fun x hx => by cases hx)⟩
  · have := UL.nil W.heap.size (W.alloc (.cells #[] 40)) (by simp)
    simpa using this
  · simp [Value.ownBlock] at h1 h2; omega
end Go.Proofs.Ytcecndjkfdaaaaa
