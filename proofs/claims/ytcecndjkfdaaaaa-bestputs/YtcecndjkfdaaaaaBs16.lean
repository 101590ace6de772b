/- What the walks of BestAgain and BestAdds share. -/
import Derived.Test.YtcecndjkfdaaaaaBs14
namespace Go.Proofs.Ytcecndjkfdaaaaa
open Go.RowKit Go.Maps
set_option linter.unusedVariables false
set_option linter.unusedSimpArgs false

/-- What lies from L to E stays while only blocks outside turn. -/
def Off (L E : Nat) (N : Nat → Prop) : Prop := ∀ k, N k → k < L ∨ E ≤ k
theorem Later.step {L : Nat} {W1 X X' : World} {M : Nat → Prop} (h : Later L W1 X) (hk : Keeps M X X') (hM : Off L W1.heap.size M) : Later L W1 X' :=
  ⟨Nat.le_trans h.1 hk.size, fun k h1 h2 => (hk.block k (Nat.lt_of_lt_of_le h2 h.1) (fun hm => by rcases hM k hm with h3 | h3 <;> omega)).trans (h.2 k h1 h2)⟩
theorem Later.below {L : Nat} {W1 X X' : World} (h : Later L W1 X) (hb : Below X.heap.size X X') : Later L W1 X' := h.step (M := fun _ => False) (Keeps.of_below hb) (fun k h => h.elim)
theorem Off.more {L E S : Nat} {N N' : Nat → Prop} (h : Off L E N) (hE : E ≤ S) (hn : ∀ k, N' k → N k ∨ S ≤ k) : Off L E N' := fun k hk => by
  rcases hn k hk with h1 | h1
  · exact h k h1
  · exact .inr (by omega)
theorem BB.more {B : Nat} {w W W' : World} {N N' : Nat → Prop} {g wd : Nat} {great : Bool} {es es' : List Ent} (h : BB B w W N g wd great es) (hb : Bst N' W' g wd great es') (hn : ∀ k, N' k → N k ∨ W.heap.size ≤ k) (hk : Keeps N W W') : BB B w W' N' g wd great es' :=
  ⟨hb, fun k hk => by
    rcases hn k hk with hk | hk
    · exact h.low k hk
    · exact Nat.le_trans h.sz hk, h.bel.trans (hk.below h.sz h.low), Nat.le_trans h.sz hk.size⟩
theorem rel_range {A : List RV} (h : ∀ x ∈ A, InRange x.2.1) (n : Int) (k : Nat) : ∀ r ∈ relOf n (A.map (·.2.1)), InRange (r.take k) := fun r hr => by
  obtain ⟨h1, _⟩ := (mem_rel _ _ _).1 hr
  obtain ⟨x, hx, rfl⟩ := List.mem_map.1 h1
  exact fun z hz => h x hx z (List.mem_of_mem_take hz)
theorem rowE_take {wd : Nat} {es : List Ent} (hok : OkE wd es) {rs : List (List Int)} (h : ∀ r ∈ rs, ∃ e ∈ es, r = rowE e) : ∀ r ∈ rs, InRange (r.take wd) := fun r hr => by
  obtain ⟨e, he, rfl⟩ := h r hr
  have : (rowE e).take wd = e.1 := by rw [← hok.len e he]; simp [rowE]
  rw [this]; exact hok.rng e he
theorem rel_nil (n : Int) : relOf n [] = [] := rfl
theorem nn_more {N : Nat → Prop} {S E : Nat} : ∀ k, NN N S E k → N k ∨ S ≤ k := fun k h => by
  rcases h with h | h
  · exact .inl h
  · exact .inr h.1
end Go.Proofs.Ytcecndjkfdaaaaa
