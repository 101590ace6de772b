/- Mathematics of numbering: the components in the order of their first nodes; a map of numbers. -/
import Derived.Test.YtfpocoaddmgakaaPl
import Derived.Maps.OwnSet
import Derived.Maps.OwnOps
namespace Go.Proofs.Ytfpocoaddmgakaa
open Go.RowKit Go.Maps
set_option linter.unusedVariables false
set_option linter.unusedSimpArgs false

/-- The first k nodes are numbered by m components. -/
structure Num (k m : Nat) (L : Nat → Int) (H : Nat → Nat) : Prop where
  lt : ∀ v, v < k → H v < m
  occ : ∀ j, j < m → ∃ v, v < k ∧ H v = j
  first : ∀ v, v < k → ∀ j, j < H v → ∃ u, u < v ∧ H u = j
  same : ∀ u v, u < k → v < k → (H u = H v ↔ L u = L v)
  le : m ≤ k
/-- The nodes of a component. -/
def cls (k : Nat) (H : Nat → Nat) (j : Nat) : List Int := ((List.range k).filter fun v => H v == j).map fun (v : Nat) => (v : Int)
theorem cls_step {k j i : Nat} {H : Nat → Nat} : cls (k + 1) (upd H k j) i = if i = j then cls k H j ++ [(k : Int)] else cls k H i := by
  unfold cls
  rw [List.range_succ, List.filter_append, List.map_append]
  have e1 : ∀ i, (List.range k).filter (fun v => upd H k j v == i) = (List.range k).filter fun v => H v == i := fun i =>
    List.filter_congr (fun v hv => by rw [upd_ne _ _ (by have := List.mem_range.1 hv; omega)])
  rw [e1]
  by_cases e : i = j
  · subst e; rw [if_pos rfl]; simp [upd_same]
  · rw [if_neg e]; simp [upd_same]; exact fun h => e h.symm
theorem cls_new {k m : Nat} {L : Nat → Int} {H : Nat → Nat} (h : Num k m L H) : cls k H m = [] := by
  unfold cls
  rw [List.filter_eq_nil_iff.2 (fun v hv => by have := h.lt v (List.mem_range.1 hv); simp; omega)]
  rfl
theorem cls_len (k : Nat) (H : Nat → Nat) (j : Nat) : (cls k H j).length ≤ k := by
  unfold cls
  rw [List.length_map]
  exact Nat.le_trans (List.length_filter_le _ _) (by simp)
theorem Num.zero (L : Nat → Int) : Num 0 0 L (fun _ => 0) := ⟨fun v h => by omega, fun j h => by omega, fun v h => by omega, fun u v h => by omega, Nat.le_refl _⟩
theorem Num.old {k m : Nat} {L : Nat → Int} {H : Nat → Nat} (h : Num k m L H) {v : Nat} (hv : v < k) (he : L v = L k) : Num (k + 1) m L (upd H k (H v)) := by
  have o : ∀ u, u < k → upd H k (H v) u = H u := fun u hu => upd_ne _ _ (by omega)
  refine ⟨fun u hu => ?_, fun j hj => ?_, fun u hu j hj => ?_, fun u w hu hw => ?_, by have := h.le; omega⟩
  · by_cases e : u = k
    · subst e; rw [upd_same]; exact h.lt v hv
    · rw [o u (by omega)]; exact h.lt u (by omega)
  · obtain ⟨u, h1, h2⟩ := h.occ j hj
    exact ⟨u, by omega, by rw [o u h1]; exact h2⟩
  · by_cases e : u = k
    · subst e
      rw [upd_same] at hj
      obtain ⟨x, h1, h2⟩ := h.first v hv j hj
      exact ⟨x, by omega, by rw [o x (by omega)]; exact h2⟩
    · rw [o u (by omega)] at hj
      obtain ⟨x, h1, h2⟩ := h.first u (by omega) j hj
      exact ⟨x, h1, by rw [o x (by omega)]; exact h2⟩
  · by_cases e1 : u = k <;> by_cases e2 : w = k
    · subst e1; subst e2; simp
    · subst e1; rw [upd_same, o w (by omega), h.same v w hv (by omega), he]
    · subst e2; rw [upd_same, o u (by omega), h.same u v (by omega) hv, he]
    · rw [o u (by omega), o w (by omega)]; exact h.same u w (by omega) (by omega)
theorem Num.new {k m : Nat} {L : Nat → Int} {H : Nat → Nat} (h : Num k m L H) (hn : ∀ v, v < k → L v ≠ L k) : Num (k + 1) (m + 1) L (upd H k m) := by
  have o : ∀ u, u < k → upd H k m u = H u := fun u hu => upd_ne _ _ (by omega)
  refine ⟨fun u hu => ?_, fun j hj => ?_, fun u hu j hj => ?_, fun u w hu hw => ?_, by have := h.le; omega⟩
  · by_cases e : u = k
    · subst e; rw [upd_same]; omega
    · rw [o u (by omega)]; have := h.lt u (by omega); omega
  · by_cases e : j = m
    · exact ⟨k, by omega, by rw [upd_same, e]⟩
    · obtain ⟨u, h1, h2⟩ := h.occ j (by omega)
      exact ⟨u, by omega, by rw [o u h1]; exact h2⟩
  · by_cases e : u = k
    · subst e
      rw [upd_same] at hj
      obtain ⟨x, h1, h2⟩ := h.occ j hj
      exact ⟨x, h1, by rw [o x h1]; exact h2⟩
    · rw [o u (by omega)] at hj
      obtain ⟨x, h1, h2⟩ := h.first u (by omega) j hj
      exact ⟨x, h1, by rw [o x (by omega)]; exact h2⟩
  · by_cases e1 : u = k <;> by_cases e2 : w = k
    · subst e1; subst e2; simp
    · subst e1
      rw [upd_same, o w (by omega)]
      exact ⟨fun e => by have := h.lt w (by omega); omega, fun e => absurd e.symm (hn w (by omega))⟩
    · subst e2
      rw [upd_same, o u (by omega)]
      exact ⟨fun e => by have := h.lt u (by omega); omega, fun e => absurd e (hn u (by omega))⟩
    · rw [o u (by omega), o w (by omega)]; exact h.same u w (by omega) (by omega)

abbrev keyI (x : Int) : Lit := .int .i64 x
/-- The map of the leaders' numbers. -/
def MI (D : DataW Unit) (k : Nat) (L : Nat → Int) (H : Nat → Nat) : Prop :=
  IsMap D ∧ ∃ g : Int → Option Nat, (∀ x, has D (keyI x) = (g x).isSome ∧ D.atKey (keyI x) (.lit (.int .i64 0)) = .lit (.int .i64 (((g x).getD 0 : Nat) : Int))) ∧ (∀ v, v < k → g (L v) = some (H v)) ∧ ∀ x, (∀ v, v < k → L v ≠ x) → g x = none
theorem mi_nil (L : Nat → Int) (H : Nat → Nat) : MI (.map []) 0 L H :=
  ⟨isMap_empty, fun _ => none, fun x => ⟨by simp [has], by simp [DataW.atKey]⟩, fun v h => by omega, fun x _ => rfl⟩
theorem MI.old {D : DataW Unit} {k : Nat} {L : Nat → Int} {H : Nat → Nat} (h : MI D k L H) {v : Nat} (hv : v < k) (he : L v = L k) : MI D (k + 1) L (upd H k (H v)) ∧ has D (keyI (L k)) = true ∧ D.atKey (keyI (L k)) (.lit (.int .i64 0)) = .lit (.int .i64 (H v : Int)) := by
  obtain ⟨h0, g, h1, h2, h3⟩ := h
  refine ⟨⟨h0, g, h1, fun u hu => ?_, fun x hx => h3 x (fun u hu => hx u (by omega))⟩, ?_, ?_⟩
  · by_cases e : u = k
    · subst e; rw [upd_same, ← he]; exact h2 v hv
    · rw [upd_ne _ _ e]; exact h2 u (by omega)
  · rw [(h1 _).1, ← he, h2 v hv]; rfl
  · rw [(h1 _).2, ← he, h2 v hv]; rfl
theorem MI.new {D : DataW Unit} {k : Nat} {L : Nat → Int} {H : Nat → Nat} (h : MI D k L H) (hn : ∀ v, v < k → L v ≠ L k) (m : Nat) : MI (D.put (keyI (L k)) (.lit (.int .i64 (m : Int)))) (k + 1) L (upd H k m) ∧ has D (keyI (L k)) = false ∧ D.atKey (keyI (L k)) (.lit (.int .i64 0)) = .lit (.int .i64 0) := by
  obtain ⟨h0, g, h1, h2, h3⟩ := h
  have hg := h3 _ hn
  refine ⟨⟨h0.put _ _, fun x => if x = L k then some m else g x, fun x => ?_, fun u hu => ?_, fun x hx => ?_⟩, by rw [(h1 _).1, hg]; rfl, by rw [(h1 _).2, hg]; rfl⟩
  · by_cases e : x = L k
    · subst e
      rw [has_put_same h0 (show WideAt.IsKeyLit (keyI (L k)) from True.intro), atKey_put_same h0 (show WideAt.IsKeyLit (keyI (L k)) from True.intro)]
      simp
    · have hne : keyI x ≠ keyI (L k) := fun h => e (by simpa [keyI] using h)
      rw [has_put_other hne, atKey_put_other hne]
      simp only [if_neg e]
      exact h1 x
  · by_cases e : u = k
    · subst e; simp [upd_same]
    · rw [upd_ne _ _ e]; simp only [if_neg (hn u (by omega))]; exact h2 u (by omega)
  · have e := hx k (by omega)
    simp only [if_neg (fun h : x = L k => e h.symm)]
    exact h3 x (fun u hu => hx u (by omega))
end Go.Proofs.Ytfpocoaddmgakaa
