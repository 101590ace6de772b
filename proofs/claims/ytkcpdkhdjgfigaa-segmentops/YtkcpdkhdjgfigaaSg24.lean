/- Mathematics of SegmentOps: the lists that its loop makes, and what they are. -/
import Derived.Test.YtkcpdkhdjgfigaaSg23
namespace Go.Proofs.Ytkcpdkhdjgfigaa
open Go.RowKit
set_option linter.unusedVariables false
set_option linter.unusedSimpArgs false

/-- The rows of L that are, or are not, among ys. -/
def pickV (b : Bool) (ys : List (List Int)) (L : List RV) : List RV := L.filter fun x => decide (x.2.1 ∈ ys) == b
theorem pickV_map (b : Bool) (ys : List (List Int)) (L : List RV) : (pickV b ys L).map (·.2.1) = fltR b ys (L.map (·.2.1)) := by
  unfold pickV fltR
  rw [List.filter_map]
  rfl
theorem pickV_take {b : Bool} {ys : List (List Int)} {L : List RV} {k : Nat} (h : k < L.length) : pickV b ys (L.take (k + 1)) = if decide ((atV L k).2.1 ∈ ys) = b then pickV b ys (L.take k) ++ [atV L k] else pickV b ys (L.take k) := by
  unfold pickV
  rw [List.take_succ_eq_append_getElem h, ← atV_eq h, List.filter_append]
  by_cases e : decide ((atV L k).2.1 ∈ ys) = b
  · rw [if_pos e]; simp [e]
  · rw [if_neg e]
    have : (decide ((atV L k).2.1 ∈ ys) == b) = false := by simpa using e
    simp [this]
theorem pickV_len (b : Bool) (ys : List (List Int)) (L : List RV) : (pickV b ys L).length ≤ L.length := List.length_filter_le _ _
theorem pickV_sub {b : Bool} {ys : List (List Int)} {L : List RV} {x : RV} (h : x ∈ pickV b ys L) : x ∈ L := (List.mem_filter.1 h).1

/-- The relation of the rows of two relations together is their union. -/
theorem rel_or {wd : Int} {X Y : List (List Int)} (hx : SortedR X) (hxw : ∀ r ∈ X, (r.length : Int) = wd) (hyw : ∀ r ∈ Y, (r.length : Int) = wd) : relOf wd (X ++ Y) = orR X Y :=
  (rel_unique (or_sorted hx Y) (fun r => by
    rw [mem_or hx, List.mem_append]
    constructor
    · rintro (h | h)
      · exact ⟨.inl h, hxw r h⟩
      · exact ⟨.inr h, hyw r h⟩
    · exact fun h => h.1)).symm
/-- Two relations are the same if all rows of the one are in the other, and there are as many. -/
theorem same_iff {X Y : List (List Int)} (hx : SortedR X) (hy : SortedR Y) : (X = Y) ↔ ((andR X Y).length = X.length ∧ X.length = Y.length) := by
  constructor
  · rintro rfl
    refine ⟨?_, rfl⟩
    have : andR X X = X := by unfold andR; rw [List.filter_eq_self]; intro r hr; exact decide_eq_true hr
    rw [this]
  · rintro ⟨h1, h2⟩
    have e1 : andR X Y = X := by unfold andR at h1 ⊢; exact List.filter_sublist.eq_of_length h1
    have e2 : (andR Y X).Sublist Y := List.filter_sublist
    rw [← law2 hx hy, e1] at e2
    exact e2.eq_of_length h2

/-- Two rows of the call's own beside each other: the one grows, the other stays. -/
structure Two (B : Nat) (w : World) (v v' : Value) (L L' : List RV) : Prop where
  one : w.ownsRow B 23 1 v L.length (L.map encV)
  two : w.ownsRow B 23 1 v' L'.length (L'.map encV)
  apart : ∀ b, v.ownBlock = some b → v'.ownBlock ≠ some b
theorem Two.swap {B : Nat} {w : World} {v v' : Value} {L L' : List RV} (h : Two B w v v' L L') : Two B w v' v L' L := ⟨h.two, h.one, fun b hb e => h.apart b e hb⟩
theorem Two.drewN {B : Nat} {w : World} {v v' : Value} {L L' : List RV} (h : Two B w v v' L L') (q : Nat) : Two B (w.drewN q) v v' L L' := ⟨h.one, h.two, h.apart⟩
theorem Two.grow {B : Nat} {w w1 : World} {v v' u : Value} {L L' M : List RV} {H : Nat} (h : Two B w v v' L L') (hown : w1.ownsRow B 23 1 u M.length (M.map encV)) (hgrow : w.grownBy w1 v.ownBlock) (hat : u.ownBlock = v.ownBlock ∨ u.ownBlock = some w.heap.size) : Two B w1 u v' M L' := by
  refine ⟨hown, owns_keeps (N := fun b => v.ownBlock = some b) h.two (Keeps.of_grown hgrow (fun k hk => hk)) (fun b hb hN => h.apart b hN hb), fun b hb e => ?_⟩
  rcases hat with e1 | e1
  · rw [e1] at hb; exact h.apart b hb e
  · rw [e1] at hb; cases hb
    have := (h.two.lt _ e).2
    omega
end Go.Proofs.Ytkcpdkhdjgfigaa
