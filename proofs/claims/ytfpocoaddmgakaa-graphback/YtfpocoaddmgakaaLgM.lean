/- Mathematics of long ways and rings. -/
import Derived.Test.YtfpocoaddmgakaaUnq
namespace Go.Proofs.Ytfpocoaddmgakaa
set_option linter.unusedVariables false
set_option linter.unusedSimpArgs false

def pathE (n : Nat) : Nat → List Int := fun i => if i + 1 < n then [((i + 1 : Nat) : Int)] else []
def ringE (n : Nat) : Nat → List Int := fun i => if i + 1 < n then [((i + 1 : Nat) : Int)] else if i + 1 = n then [0] else []
theorem path_edge {n a b : Nat} : Edge n (pathE n) a b ↔ b = a + 1 ∧ b < n := by
  unfold Edge pathE
  constructor
  · rintro ⟨h1, h2, h3⟩
    split at h3
    · simp at h3; omega
    · simp at h3
  · rintro ⟨rfl, h⟩
    rw [if_pos h]; simp; omega
theorem path_up {n a b : Nat} (h : RT (Edge n (pathE n)) a b) : a ≤ b := by
  induction h with
  | refl => exact Nat.le_refl _
  | step e _ ih => have := path_edge.1 e; omega
/-- The first k of the path's components. -/
def downTo (n k : Nat) : List Nat := (List.range k).map fun i => n - 1 - i
theorem mem_down {n k x : Nat} (hk : k ≤ n) : x ∈ downTo n k ↔ n ≤ x + k ∧ x < n := by
  unfold downTo
  simp only [List.mem_map, List.mem_range]
  constructor
  · rintro ⟨i, hi, rfl⟩; omega
  · rintro ⟨h1, h2⟩; exact ⟨n - 1 - x, by omega, by omega⟩
theorem path_betw {n a b : Nat} : (a, b) ∈ betwN n (pathE n) (fun v => v) n ↔ b = a + 1 ∧ b < n := by
  rw [mem_betw]
  constructor
  · rintro ⟨x, y, h, rfl, rfl, _⟩; exact path_edge.1 h
  · intro h; exact ⟨a, b, path_edge.2 h, rfl, rfl, by omega⟩
theorem path_greedy {n : Nat} : ∀ k, k ≤ n → Greedy n (betwN n (pathE n) (fun v => v) n) (downTo n k) := by
  intro k
  induction k with
  | zero => intro _; exact .nil
  | succ k ih =>
    intro hk
    have e : downTo n (k + 1) = downTo n k ++ [n - 1 - k] := by unfold downTo; rw [List.range_succ, List.map_append]; rfl
    rw [e]
    refine .snoc (ih (by omega)) ⟨by omega, fun h => ?_, fun b hb => ?_⟩ (fun a ha => ?_)
    · rw [mem_down (by omega)] at h; omega
    · rw [path_betw] at hb; rw [mem_down (by omega)]; omega
    · obtain ⟨h1, h2, h3⟩ := ha
      rw [mem_down (by omega)] at h2
      rcases Nat.lt_or_ge a (n - 1 - k) with hlt | hge
      · have := h3 (a + 1) (path_betw.2 ⟨rfl, by omega⟩)
        rw [mem_down (by omega)] at this; omega
      · exact hge
theorem cls_id {n j : Nat} (h : j < n) : cls n (fun v => v) j = [(j : Int)] := by
  unfold cls
  have : (List.range n).filter (fun v => v == j) = [j] := by
    induction n with
    | zero => omega
    | succ n ih =>
      rw [List.range_succ, List.filter_append]
      by_cases e : j = n
      · subst e
        have : (List.range j).filter (fun v => v == j) = [] := List.filter_eq_nil_iff.2 (fun v hv => by have := List.mem_range.1 hv; simp; omega)
        rw [this]; simp
      · rw [ih (by omega)]; simp; omega
  rw [this]; rfl
theorem comps_path (n : Nat) : CompsOf n (pathE n) ((List.range n).map fun i => [((n - 1 - i : Nat) : Int)]) := by
  refine ⟨n, fun v => v, downTo n n, ⟨fun v hv => hv, fun j hj => ⟨j, hj, rfl⟩, fun v hv j hj => ⟨j, hj, rfl⟩, fun u v hu hv => ?_, Nat.le_refl _⟩, path_greedy n (Nat.le_refl _), ?_, ?_⟩
  · constructor
    · intro e
      have e : u = v := e
      subst e; exact ⟨.refl _, .refl _⟩
    · rintro ⟨h1, h2⟩
      have := path_up h1
      have := path_up h2
      show u = v
      omega
  · rintro a ⟨h1, h2, _⟩
    rw [mem_down (Nat.le_refl _)] at h2; omega
  · unfold downTo
    rw [List.map_map]
    refine List.map_congr_left (fun i hi => ?_)
    have := List.mem_range.1 hi
    show _ = cls n (fun v => v) (n - 1 - i)
    rw [cls_id (by omega)]

theorem ring_step {n a : Nat} (h : a + 1 < n) : Edge n (ringE n) a (a + 1) := ⟨by omega, h, by unfold ringE; rw [if_pos h]; simp⟩
theorem ring_back {n : Nat} (h : 0 < n) : Edge n (ringE n) (n - 1) 0 := ⟨by omega, h, by unfold ringE; rw [if_neg (by omega), if_pos (by omega)]; simp⟩
theorem ring_up {n a : Nat} : ∀ d, a + d < n → RT (Edge n (ringE n)) a (a + d) := by
  intro d
  induction d with
  | zero => intro _; exact .refl _
  | succ d ih => intro h; exact (ih (by omega)).trans (RT.one (ring_step (by omega)))
theorem ring_all {n a b : Nat} (ha : a < n) (hb : b < n) : RT (Edge n (ringE n)) a b := by
  have h1 := ring_up (n := n) (a := a) (n - 1 - a) (by omega)
  have h2 := ring_up (n := n) (a := 0) b (by omega)
  rw [show a + (n - 1 - a) = n - 1 by omega] at h1
  rw [Nat.zero_add] at h2
  exact (h1.trans (RT.one (ring_back (by omega)))).trans h2
theorem comps_ring {n : Nat} (hn : 0 < n) : CompsOf n (ringE n) [(List.range n).map fun (i : Nat) => (i : Int)] := by
  have hes : betwN n (ringE n) (fun _ => 0) n = [] := by
    apply List.eq_nil_iff_forall_not_mem.2
    rintro ⟨a, b⟩ h
    obtain ⟨_, _, _, rfl, rfl, h⟩ := mem_betw.1 h
    exact h rfl
  refine ⟨1, fun _ => 0, [0], ⟨fun v hv => by show 0 < 1; omega, fun j hj => ⟨0, hn, by show 0 = j; omega⟩, fun v hv j hj => by have hj : j < 0 := hj; omega, fun u v hu hv => ⟨fun _ => ⟨ring_all hu hv, ring_all hv hu⟩, fun _ => rfl⟩, hn⟩, ?_, ?_, ?_⟩
  · rw [hes]
    exact .snoc (S := []) .nil ⟨by omega, by simp, fun b hb => by simp at hb⟩ (fun a _ => Nat.zero_le _)
  · rintro a ⟨h1, h2, _⟩
    simp at h2; omega
  · show _ = [cls n (fun _ => 0) 0]
    unfold cls
    have : (List.range n).filter (fun v => (fun _ : Nat => 0) v == 0) = List.range n := List.filter_eq_self.2 (fun v _ => rfl)
    rw [this]
theorem tot_small {n : Nat} {E : Nat → List Int} (h : ∀ i, (E i).length ≤ 1) : tot n (fun v => (E v).length) ≤ n := by
  have := tot_le (n := n) (f := fun v => (E v).length) (g := fun _ => 1) (fun i _ => h i)
  rw [tot_one] at this; exact this
theorem path_one (n i : Nat) : (pathE n i).length ≤ 1 := by unfold pathE; split <;> simp
theorem ring_one (n i : Nat) : (ringE n i).length ≤ 1 := by unfold ringE; split <;> (try split) <;> simp
end Go.Proofs.Ytfpocoaddmgakaa
