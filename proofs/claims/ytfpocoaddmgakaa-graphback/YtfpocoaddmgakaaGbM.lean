/- Mathematics of turned edges. -/
import Derived.Test.YtfpocoaddmgakaaArg
namespace Go.Proofs.Ytfpocoaddmgakaa
set_option linter.unusedVariables false
set_option linter.unusedSimpArgs false

theorem RT.turn {E E' : Nat → Nat → Prop} (h : ∀ a b, E' a b → E b a) {a b : Nat} (hr : RT E' a b) : RT E b a := by
  induction hr with
  | refl => exact .refl _
  | step e _ ih => exact ih.trans (.one (h _ _ e))
theorem CN.turn {n : Nat} {E E' : Nat → List Int} {m : Nat} {H : Nat → Nat} (h : CN n E m H) (he : ∀ a b, Edge n E' a b ↔ Edge n E b a) : CN n E' m H :=
  ⟨h.lt, h.occ, h.first, fun u v hu hv => by
    rw [h.same u v hu hv]
    constructor
    · rintro ⟨h1, h2⟩
      exact ⟨RT.turn (fun a b e => (he b a).2 e) h2, RT.turn (fun a b e => (he b a).2 e) h1⟩
    · rintro ⟨h1, h2⟩
      exact ⟨RT.turn (fun a b e => (he a b).1 e) h2, RT.turn (fun a b e => (he a b).1 e) h1⟩, h.le⟩
theorem greedy_all {n : Nat} {E : Nat → List Int} {m : Nat} {H : Nat → Nat} {S : List Nat} (h : CN n E m H) (hs : ∀ a, ¬ Ready m (betwN n E H n) S a) {c : Nat} (hc : c < m) : c ∈ S := by
  obtain ⟨v, hv, rfl⟩ := h.occ c hc
  refine Classical.byContradiction fun hno => ?_
  obtain ⟨a, ha⟩ := ready_exists h hv hno
  exact hs a ha
/-- With all edges turned the components are the same sets. -/
theorem turned {n : Nat} {E E' : Nat → List Int} {R R' : List (List Int)} (h : CompsOf n E R) (h' : CompsOf n E' R') (he : ∀ a b, Edge n E' a b ↔ Edge n E b a) :
    ∃ f : Nat → Nat, f 0 = 0 ∧ (∀ k (hk : k < R.length), f (k + 1) = f k + (R[k]).length) ∧ f R.length = n ∧ (∀ k, f k ≤ n) ∧ R.length = R'.length ∧ ∀ r ∈ R, r ∈ R' := by
  obtain ⟨m, H, S, h1, h2, h3, rfl⟩ := h
  obtain ⟨m', H', S', k1, k2, k3, rfl⟩ := h'
  obtain ⟨e1, rfl⟩ := (h1.turn he).unique k1
  have a1 : ∀ c, c ∈ S ↔ c < m := fun c => ⟨h2.ok.1 c, greedy_all h1 h3⟩
  have a2 : ∀ c, c ∈ S' ↔ c < m := fun c => ⟨k2.ok.1 c, greedy_all k1 k3⟩
  have hp : S.Perm S' := (List.perm_ext_iff_of_nodup h2.ok.2.1 k2.ok.2.1).2 (fun c => by rw [a1, a2])
  refine ⟨fun k => cntS n H (S.take k), by simp [cntS_nil], fun k hk => ?_, ?_, fun k => cntS_le _ _ _, by simp [hp.length_eq], fun r hr => ?_⟩
  · rw [List.length_map] at hk
    show cntS n H (S.take (k + 1)) = cntS n H (S.take k) + _
    rw [List.take_succ_eq_append_getElem hk, cntS_add, List.getElem_map]
    intro hin
    have hnd := h2.ok.2.1
    obtain ⟨i, hi, e⟩ := List.getElem_of_mem hin
    rw [List.getElem_take] at e
    simp only [List.length_take] at hi
    have := (List.getElem_inj hnd).1 e
    omega
  · show cntS n H (S.take (S.map (cls n H)).length) = n
    rw [List.length_map, List.take_length]
    exact cntS_full.2 (fun v hv => (a1 _).2 (h1.lt v hv))
  · obtain ⟨c, hc, rfl⟩ := List.mem_map.1 hr
    refine List.mem_map.2 ⟨c, (a2 c).2 ((a1 c).1 hc), (cls_congr e1 c).symm⟩
/-- The edges of whole rows up to i, and of row i the first j, turned. -/
def BackTo (n : Nat) (E : Nat → List Int) (i j : Nat) (C : Nat → List Int) : Prop := ∀ t : Nat, t < n → ∀ x : Int, x ∈ C t ↔ ∃ u : Nat, x = (u : Int) ∧ ((u < i ∧ (t : Int) ∈ E u) ∨ (u = i ∧ (t : Int) ∈ (E i).take j))
theorem BackTo.zero (n : Nat) (E : Nat → List Int) : BackTo n E 0 0 (fun _ => []) := fun t ht x => by simp
theorem BackTo.row {n : Nat} {E : Nat → List Int} {i j : Nat} {C : Nat → List Int} (h : BackTo n E i j C) (hj : (E i).length ≤ j) : BackTo n E (i + 1) 0 C := fun t ht x => by
  rw [h t ht x]
  rw [List.take_of_length_le hj]
  constructor
  · rintro ⟨u, rfl, (⟨h1, h2⟩ | ⟨rfl, h2⟩)⟩
    · exact ⟨u, rfl, .inl ⟨by omega, h2⟩⟩
    · exact ⟨u, rfl, .inl ⟨by omega, h2⟩⟩
  · rintro ⟨u, rfl, (⟨h1, h2⟩ | ⟨rfl, h2⟩)⟩
    · by_cases e : u = i
      · subst e; exact ⟨u, rfl, .inr ⟨rfl, h2⟩⟩
      · exact ⟨u, rfl, .inl ⟨by omega, h2⟩⟩
    · simp at h2
theorem BackTo.put {n : Nat} {E : Nat → List Int} {i j b : Nat} {C : Nat → List Int} (h : BackTo n E i j C) (hj : (E i)[j]? = some (b : Int)) : BackTo n E i (j + 1) (fun t => if t = b then C b ++ [(i : Int)] else C t) := fun t ht x => by
  have hl := (List.getElem?_eq_some_iff.1 hj).1
  have he : (E i)[j] = (b : Int) := (List.getElem?_eq_some_iff.1 hj).2
  rw [List.take_succ_eq_append_getElem hl, he]
  have h0 := h t ht x
  by_cases e : t = b
  · subst e
    simp only [if_true, List.mem_append, h0, List.mem_singleton]
    constructor
    · rintro (⟨u, rfl, (h1 | h1)⟩ | rfl)
      · exact ⟨u, rfl, .inl h1⟩
      · exact ⟨u, rfl, .inr ⟨h1.1, .inl h1.2⟩⟩
      · exact ⟨i, rfl, .inr ⟨rfl, .inr trivial⟩⟩
    · rintro ⟨u, rfl, (h1 | ⟨h1, h2 | h2⟩)⟩
      · exact .inl ⟨u, rfl, .inl h1⟩
      · exact .inl ⟨u, rfl, .inr ⟨h1, h2⟩⟩
      · exact .inr (by rw [h1])
  · have e2 : ¬ ((t : Int) = (b : Int)) := by omega
    simp only [if_neg e, h0, List.mem_append, List.mem_singleton, e2, or_false]
theorem BackTo.edge {n : Nat} {E : Nat → List Int} {C : Nat → List Int} (h : BackTo n E n 0 C) (a b : Nat) : Edge n C a b ↔ Edge n E b a := by
  unfold Edge
  constructor
  · rintro ⟨h1, h2, h3⟩
    obtain ⟨u, hu, (⟨h4, h5⟩ | ⟨_, h5⟩)⟩ := (h a h1 _).1 h3
    · obtain rfl : b = u := by omega
      exact ⟨h2, h1, h5⟩
    · simp at h5
  · rintro ⟨h1, h2, h3⟩
    exact ⟨h2, h1, (h a h2 _).2 ⟨b, rfl, .inl ⟨h1, h3⟩⟩⟩
end Go.Proofs.Ytfpocoaddmgakaa
