/- Rows none twice: their relation is a rearrangement. -/
import Derived.Test.YtcecndjkfdaaaaaDoorSegMath
namespace Go.Proofs.YtcecndjkfdaaaaaDoor
set_option linter.unusedVariables false
set_option linter.unusedSimpArgs false

theorem ins_perm {l : List (List Int)} {r : List Int} (h : r ∉ l) : (ins l r).Perm (r :: l) := by
  unfold ins
  rw [if_neg (fun e => h (List.mem_of_getElem? e))]
  have := List.perm_middle (a := r) (l₁ := l.take (before l r)) (l₂ := l.drop (before l r))
  rwa [List.take_append_drop] at this
theorem rel_perm (n : Nat) : ∀ (rows acc : List (List Int)), (∀ r ∈ rows, r.length = n) → (∀ r ∈ rows, r ∉ acc) → rows.Pairwise (· ≠ ·) → (rows.foldl (fun out r => if (r.length : Int) = (n : Int) then ins out r else out) acc).Perm (rows ++ acc)
  | [], acc, _, _, _ => List.Perm.refl _
  | r :: rows, acc, hl, hn, hp => by
    rw [List.foldl_cons, if_pos (by rw [hl r (List.mem_cons_self ..)])]
    obtain ⟨hp1, hp2⟩ := List.pairwise_cons.1 hp
    have hr := hn r (List.mem_cons_self ..)
    have ih := rel_perm n rows (ins acc r) (fun x hx => hl x (List.mem_cons_of_mem _ hx)) (fun x hx h => by
      rcases (mem_ins acc r x).1 h with e | e
      · exact hp1 x hx e.symm
      · exact hn x (List.mem_cons_of_mem _ hx) e) hp2
    refine ih.trans ?_
    have h1 : (rows ++ ins acc r).Perm (rows ++ r :: acc) := List.Perm.append_left _ (ins_perm hr)
    exact h1.trans List.perm_middle
theorem rel_len_eq {n : Nat} {rows : List (List Int)} (hl : ∀ r ∈ rows, r.length = n) (hp : rows.Pairwise (· ≠ ·)) : (relOf (n : Int) rows).length = rows.length := by
  have := (rel_perm n rows [] hl (fun r _ h => by cases h) hp).length_eq
  rw [List.append_nil] at this
  exact this
end Go.Proofs.YtcecndjkfdaaaaaDoor
