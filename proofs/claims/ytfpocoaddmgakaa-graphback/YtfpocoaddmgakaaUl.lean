import Derived.Test.YtfpocoaddmgakaaRv
/- Lists of rows of the call's own, and beside them nothing. -/
namespace Go.Proofs.Ytfpocoaddmgakaa
open Go.RowKit
set_option linter.unusedVariables false
set_option linter.unusedSimpArgs false

/-- A list of rows that the call owns, the rows beside it. -/
structure UL (B : Nat) (w : World) (v : Value) (L : List RV) : Prop where
  own : w.ownsRow B 22 1 v L.length (L.map encV)
  rows : ∀ x ∈ L, (Row w x.1 x.2.1 ∧ x.2.1.length ≤ x.2.2) ∧ ∀ p, x.1 = some p → p.block < w.heap.size ∧ v.ownBlock ≠ some p.block
theorem UL.keeps {N : Nat → Prop} {B : Nat} {w w' : World} {v : Value} {L : List RV} (h : UL B w v L) (hk : Keeps N w w') (h1 : ∀ b, v.ownBlock = some b → ¬ N b) (h2 : ∀ x ∈ L, ∀ p, x.1 = some p → ¬ N p.block) : UL B w' v L :=
  ⟨owns_keeps h.own hk h1, fun x hx => ⟨⟨(h.rows x hx).1.1.keeps hk (h2 x hx), (h.rows x hx).1.2⟩, fun p hp => ⟨Nat.lt_of_lt_of_le ((h.rows x hx).2 p hp).1 hk.size, ((h.rows x hx).2 p hp).2⟩⟩⟩
theorem UL.below {B : Nat} {w w' : World} {v : Value} {L : List RV} (h : UL B w v L) (hb : Below w.heap.size w w') : UL B w' v L :=
  h.keeps (Keeps.of_below (N := fun _ => False) hb) (fun _ _ h => h) (fun _ _ _ _ h => h)
theorem UL.nil (B : Nat) (w : World) (hB : B ≤ w.heap.size) : UL B (w.alloc (.cells #[] 22)) (.slice (some ⟨w.heap.size, 0, none⟩) 0 0) [] :=
  ⟨World.ownsRow_lit (base := B) (e := 22) (size := 1) w #[] 0 hB (by decide) rfl, fun x hx => by cases hx⟩
theorem UL.rrow {B : Nat} {w : World} {v : Value} {L : List RV} (h : UL B w v L) : ∃ a cap, v = .slice a L.length cap ∧ RRow w a L := rrow_of_owns h.own (fun x hx => (h.rows x hx).1)
theorem UL.push {B : Nat} {w w2 : World} {v v' : Value} {L : List RV} (h : UL B w v L) {x : RV} {o : Obj} (hrow : Row w x.1 x.2.1) (hcap : x.2.1.length ≤ x.2.2) (hf : ∀ p, x.1 = some p → p.block < w.heap.size ∧ v.ownBlock ≠ some p.block)
    (hown : w2.ownsRow B 22 1 v' (L.length + 1) (L.map encV ++ [encV x])) (hgrow : (w.alloc o).grownBy w2 v.ownBlock) (hat : v'.ownBlock = v.ownBlock ∨ v'.ownBlock = some (w.alloc o).heap.size) : UL B w2 v' (L ++ [x]) := by
  have k : Keeps (fun b => v.ownBlock = some b) w w2 := ((Keeps.refl (fun b => v.ownBlock = some b) w).alloc o).trans (Keeps.of_grown hgrow (fun b hb => hb))
  have all : ∀ y : RV, Row w y.1 y.2.1 ∧ y.2.1.length ≤ y.2.2 → (∀ p, y.1 = some p → p.block < w.heap.size ∧ v.ownBlock ≠ some p.block) → (Row w2 y.1 y.2.1 ∧ y.2.1.length ≤ y.2.2) ∧ ∀ p, y.1 = some p → p.block < w2.heap.size ∧ v'.ownBlock ≠ some p.block := by
    intro y hy hp
    refine ⟨⟨hy.1.keeps k (fun p e => (hp p e).2), hy.2⟩, fun p e => ⟨Nat.lt_of_lt_of_le (hp p e).1 k.size, fun e2 => ?_⟩⟩
    rcases hat with h1 | h1
    · rw [h1] at e2; exact (hp p e).2 e2
    · rw [h1] at e2
      simp at e2
      have := (hp p e).1
      omega
  refine ⟨by rw [List.length_append, List.map_append]; exact hown, fun y hy => ?_⟩
  rcases List.mem_append.1 hy with h1 | h1
  · exact all y (h.rows y h1).1 (h.rows y h1).2
  · obtain rfl : y = x := by simpa using h1
    exact all y ⟨hrow, hcap⟩ hf
theorem UL.belowW {B : Nat} {w w1 w2 : World} {v : Value} {L : List RV} {o : Obj} (h : UL B w v L) (hb : Below B w1 w) (hB : B ≤ w.heap.size) (hgrow : (w.alloc o).grownBy w2 v.ownBlock) : Below B w1 w2 :=
  (hb.alloc hB _).grown hgrow (by simp; omega) (fun k hk => (h.own.lt k hk).1)
end Go.Proofs.Ytfpocoaddmgakaa
