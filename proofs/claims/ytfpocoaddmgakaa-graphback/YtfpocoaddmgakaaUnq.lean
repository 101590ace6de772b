/- The components in their order are one list only. -/
import Derived.Test.YtfpocoaddmgakaaCp
namespace Go.Proofs.Ytfpocoaddmgakaa
set_option linter.unusedVariables false
set_option linter.unusedSimpArgs false

theorem CN.unique {n : Nat} {E : Nat → List Int} {m m' : Nat} {H H' : Nat → Nat} (h : CN n E m H) (h' : CN n E m' H') : (∀ v, v < n → H v = H' v) ∧ m = m' := by
  have key : ∀ v, v < n → H v = H' v := by
    intro v
    induction v using Nat.strongRecOn with
    | _ v ih =>
      intro hv
      by_cases hs : ∃ u, u < v ∧ RT (Edge n E) u v ∧ RT (Edge n E) v u
      · obtain ⟨u, hu, hr⟩ := hs
        rw [← (h.same u v (by omega) hv).2 hr, ← (h'.same u v (by omega) hv).2 hr]
        exact ih u hu (by omega)
      · have n1 : ∀ u, u < v → H u ≠ H v := fun u hu e => hs ⟨u, hu, (h.same u v (by omega) hv).1 e⟩
        have n2 : ∀ u, u < v → H' u ≠ H' v := fun u hu e => hs ⟨u, hu, (h'.same u v (by omega) hv).1 e⟩
        rcases Nat.lt_trichotomy (H v) (H' v) with hl | hl | hl
        · obtain ⟨u, hu, e⟩ := h'.first v hv _ hl
          exact absurd ((ih u hu (by omega)).trans e) (n1 u hu)
        · exact hl
        · obtain ⟨u, hu, e⟩ := h.first v hv _ hl
          exact absurd ((ih u hu (by omega)).symm.trans e) (n2 u hu)
  refine ⟨key, ?_⟩
  rcases Nat.lt_trichotomy m m' with hl | hl | hl
  · obtain ⟨v, hv, e⟩ := h'.occ m hl
    have := h.lt v hv
    rw [key v hv, e] at this; omega
  · exact hl
  · obtain ⟨v, hv, e⟩ := h.occ m' hl
    have := h'.lt v hv
    rw [← key v hv, e] at this; omega
theorem fm_congr {α β : Type} {f g : α → List β} : ∀ {l : List α}, (∀ x ∈ l, f x = g x) → l.flatMap f = l.flatMap g
  | [], _ => rfl
  | x :: l, h => by rw [List.flatMap_cons, List.flatMap_cons, h x List.mem_cons_self, fm_congr (fun y hy => h y (List.mem_cons_of_mem _ hy))]
theorem betwN_congr {n : Nat} {E : Nat → List Int} {H H' : Nat → Nat} (h : ∀ v, v < n → H v = H' v) : betwN n E H n = betwN n E H' n := by
  unfold betwN
  refine fm_congr (fun v hv => fm_congr (fun t _ => ?_))
  unfold stepN
  by_cases ht : 0 ≤ t ∧ t < (n : Int)
  · rw [h v (List.mem_range.1 hv), h t.toNat (by omega)]
  · rw [if_neg (fun x => ht x.1), if_neg (fun x => ht x.1)]
theorem cls_congr {n : Nat} {H H' : Nat → Nat} (h : ∀ v, v < n → H v = H' v) (j : Nat) : cls n H j = cls n H' j := by
  unfold cls
  rw [List.filter_congr (fun v hv => by rw [h v (List.mem_range.1 hv)])]
theorem Greedy.getR {m : Nat} {ES : List (Nat × Nat)} {T : List Nat} (hT : Greedy m ES T) : ∀ i (hi : i < T.length), Ready m ES (T.take i) T[i] := by
  induction hT with
  | nil => intro i hi; simp at hi
  | @snoc T d hT hr hl ih =>
    intro i hi
    simp only [List.length_append, List.length_cons, List.length_nil] at hi
    by_cases h : i < T.length
    · rw [List.take_append_of_le_length (by omega), List.getElem_append_left h]
      exact ih i h
    · obtain rfl : i = T.length := by omega
      simp
      exact hr
theorem Greedy.eq {m : Nat} {ES : List (Nat × Nat)} {S T : List Nat} (h : Greedy m ES S) (h' : Greedy m ES T) (hs : ∀ a, ¬ Ready m ES S a) (ht : ∀ a, ¬ Ready m ES T a) : S = T := by
  have one : ∀ {S T : List Nat}, Greedy m ES S → Greedy m ES T → (∀ a, ¬ Ready m ES S a) → S.length ≤ T.length → S = T := by
    intro S T h h' hs hl
    have e := h.unique h' hl
    rcases Nat.lt_or_ge S.length T.length with hlt | hge
    · have := h'.getR S.length hlt
      rw [← e] at this
      exact absurd this (hs _)
    · rw [e, List.take_of_length_le (by omega)]
  rcases Nat.le_total S.length T.length with hl | hl
  · exact one h h' hs hl
  · exact (one h' h ht hl).symm
theorem CompsOf.unique {n : Nat} {E : Nat → List Int} {R R' : List (List Int)} (h : CompsOf n E R) (h' : CompsOf n E R') : R = R' := by
  obtain ⟨m, H, S, h1, h2, h3, rfl⟩ := h
  obtain ⟨m', H', S', k1, k2, k3, rfl⟩ := h'
  obtain ⟨e1, rfl⟩ := h1.unique k1
  rw [← betwN_congr e1] at k2 k3
  rw [h2.eq k2 h3 k3]
  exact List.map_congr_left (fun c _ => cls_congr e1 c)
end Go.Proofs.Ytfpocoaddmgakaa
