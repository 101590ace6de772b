/- Mathematics of the page's components: closure, and which component may be next. -/
import Derived.Test.YtfpocoaddmgakaaUnq
namespace Go.Proofs.Ytfpocoaddmgakaa
set_option linter.unusedVariables false
set_option linter.unusedSimpArgs false

/-- By one edge or several. -/
def RP (E : Nat → Nat → Prop) (a b : Nat) : Prop := ∃ c, E a c ∧ RT E c b
theorem RP.trans {E : Nat → Nat → Prop} {a b c : Nat} (h : RP E a b) (k : RP E b c) : RP E a c := by
  obtain ⟨x, h1, h2⟩ := h
  obtain ⟨y, k1, k2⟩ := k
  exact ⟨x, h1, h2.trans (.step k1 k2)⟩
theorem RT.rp {E : Nat → Nat → Prop} {a b : Nat} (h : RT E a b) : a = b ∨ RP E a b := by
  cases h with
  | refl => exact .inl rfl
  | step e h => exact .inr ⟨_, e, h⟩
theorem RP.rt {E : Nat → Nat → Prop} {a b : Nat} (h : RP E a b) : RT E a b := by
  obtain ⟨x, h1, h2⟩ := h
  exact .step h1 h2
/-- By way of nodes below k. -/
def Via (E : Nat → Nat → Prop) : Nat → Nat → Nat → Prop
  | 0, i, j => E i j
  | k + 1, i, j => Via E k i j ∨ (Via E k i k ∧ Via E k k j)
theorem via_trans {E : Nat → Nat → Prop} : ∀ (k : Nat) {i m j : Nat}, m < k → Via E k i m → Via E k m j → Via E k i j := by
  intro k
  induction k with
  | zero => intro i m j h; omega
  | succ k ih =>
    intro i m j hm h1 h2
    by_cases e : m = k
    · subst e
      have a1 : Via E m i m := by rcases h1 with h | ⟨h, _⟩ <;> exact h
      have a2 : Via E m m j := by rcases h2 with h | ⟨_, h⟩ <;> exact h
      exact .inr ⟨a1, a2⟩
    · have hm' : m < k := by omega
      rcases h1 with a | ⟨b1, b2⟩
      · rcases h2 with c | ⟨d1, d2⟩
        · exact .inl (ih hm' a c)
        · exact .inr ⟨ih hm' a d1, d2⟩
      · rcases h2 with c | ⟨d1, d2⟩
        · exact .inr ⟨b1, ih hm' b2 c⟩
        · exact .inr ⟨b1, d2⟩
theorem via_mono {E : Nat → Nat → Prop} {i j : Nat} (h : E i j) : ∀ k, Via E k i j
  | 0 => h
  | k + 1 => .inl (via_mono h k)
theorem via_all {n : Nat} {E : Nat → List Int} {a b : Nat} (h : RP (Edge n E) a b) : Via (Edge n E) n a b := by
  obtain ⟨c, h1, h2⟩ := h
  induction h2 generalizing a with
  | refl => exact via_mono h1 n
  | step e _ ih => exact via_trans n h1.2.1 (via_mono h1 n) (ih e)

theorem countP_lt {α : Type} {p q : α → Bool} {l : List α} (h : ∀ y ∈ l, p y = true → q y = true) {y : α} (hy : y ∈ l) (h1 : p y = false) (h2 : q y = true) : l.countP p < l.countP q := by
  induction l with
  | nil => cases hy
  | cons x l ih =>
    rw [List.countP_cons, List.countP_cons]
    have hmono : l.countP p ≤ l.countP q := List.countP_mono_left (fun z hz hpz => h z (List.mem_cons_of_mem _ hz) hpz)
    rcases List.mem_cons.1 hy with rfl | hy'
    · simp [h1, h2]; omega
    · have := ih (fun z hz => h z (List.mem_cons_of_mem _ hz)) hy'
      have hx := h x List.mem_cons_self
      cases hp : p x <;> cases hq : q x <;> simp_all <;> omega
open Classical in
/-- How many nodes are reached. -/
noncomputable def cntR (n : Nat) (E : Nat → List Int) (v : Nat) : Nat := (List.range n).countP fun y => decide (RT (Edge n E) v y)
open Classical in
theorem cntR_lt {n : Nat} {E : Nat → List Int} {v b : Nat} (hv : v < n) (h1 : RT (Edge n E) v b) (h2 : ¬ RT (Edge n E) b v) : cntR n E b < cntR n E v := by
  refine countP_lt (y := v) (fun y _ hy => ?_) (List.mem_range.2 hv) (by simpa using h2) (by simpa using RT.refl v)
  have := of_decide_eq_true hy
  exact decide_eq_true (h1.trans this)
/-- Each graph has its components. -/
theorem num_exists (n : Nat) (L : Nat → Int) : ∀ k, ∃ m H, Num k m L H := by
  intro k
  induction k with
  | zero => exact ⟨0, fun _ => 0, Num.zero L⟩
  | succ k ih =>
    obtain ⟨m, H, h⟩ := ih
    by_cases hold : ∃ v, v < k ∧ L v = L k
    · obtain ⟨v, hv, he⟩ := hold
      exact ⟨m, _, h.old hv he⟩
    · exact ⟨m + 1, _, h.new (fun v hv e => hold ⟨v, hv, e⟩)⟩
theorem cn_exists (n : Nat) (E : Nat → List Int) : ∃ m H, CN n E m H := by
  have hl : ∀ v, ∃ u, (RT (Edge n E) v u ∧ RT (Edge n E) u v) ∧ ∀ j, (RT (Edge n E) v j ∧ RT (Edge n E) j v) → u ≤ j := fun v => least_is ⟨v, .refl _, .refl _⟩
  obtain ⟨L, hL⟩ := Classical.axiomOfChoice hl
  obtain ⟨m, H, h⟩ := num_exists n (fun v => ((L v : Nat) : Int)) n
  refine ⟨m, H, h.lt, h.occ, h.first, fun u v hu hv => ?_, h.le⟩
  rw [h.same u v hu hv]
  constructor
  · intro e
    have e : L u = L v := by omega
    have h1 := (hL u).1
    have h2 := (hL v).1
    rw [e] at h1
    exact ⟨h1.1.trans h2.2, h2.1.trans h1.2⟩
  · rintro ⟨h1, h2⟩
    have a := (hL u).2 (L v) ⟨h1.trans (hL v).1.1, (hL v).1.2.trans h2⟩
    have b := (hL v).2 (L u) ⟨h2.trans (hL u).1.1, (hL u).1.2.trans h1⟩
    omega

section
variable {n : Nat} {E : Nat → List Int} {m : Nat} {H : Nat → Nat} {S : List Nat}
theorem CN.reach (h : CN n E m H) {u v : Nat} (hu : u < n) (hv : v < n) (e : H u = H v) : RT (Edge n E) u v ∧ RT (Edge n E) v u := (h.same u v hu hv).1 e
open Classical in
/-- There is always one that may be next. -/
theorem ready_exists (h : CN n E m H) {v : Nat} (hv : v < n) (hS : H v ∉ S) : ∃ a, Ready m (betwN n E H n) S a := by
  have key : ∀ N v, cntR n E v ≤ N → v < n → H v ∉ S → ∃ a, Ready m (betwN n E H n) S a := by
    intro N
    induction N with
    | zero =>
      intro v hN hv hS
      refine absurd hN (Nat.not_le_of_gt ?_)
      exact List.countP_pos_iff.2 ⟨v, List.mem_range.2 hv, decide_eq_true (RT.refl v)⟩
    | succ N ih =>
      intro v hN hv hS
      by_cases hr : ∀ d, (H v, d) ∈ betwN n E H n → d ∈ S
      · exact ⟨H v, h.lt v hv, hS, hr⟩
      · simp only [Classical.not_forall] at hr
        obtain ⟨d, hd, hdS⟩ := hr
        obtain ⟨a, b, he, ha, hb, hne⟩ := mem_betw.1 hd
        have r1 := h.reach hv he.1 ha.symm
        have r2 : RT (Edge n E) v b := r1.1.trans (RT.one he)
        have r3 : ¬ RT (Edge n E) b v := fun hbv => hne (by rw [← hb]; exact (h.same v b hv he.2.1).2 ⟨r2, hbv⟩)
        have := cntR_lt hv r2 r3
        exact ih b (by omega) he.2.1 (by rw [hb]; exact hdS)
  exact key _ v (Nat.le_refl _) hv hS
/-- Whether the component of a node may be next, by the page. -/
theorem ready_iff (h : CN n E m H) (hc : ∀ a ∈ S, ∀ b, (a, b) ∈ betwN n E H n → b ∈ S) {i : Nat} (hi : i < n) :
    Ready m (betwN n E H n) S (H i) ↔ H i ∉ S ∧ ∀ j, j < n → H j = H i ∨ ¬ RP (Edge n E) i j ∨ H j ∈ S := by
  constructor
  · rintro ⟨h1, h2, h3⟩
    refine ⟨h2, fun j hj => ?_⟩
    by_cases hr : RP (Edge n E) i j
    · have key : ∀ x, RT (Edge n E) i x → (H x = H i ∨ H x ∈ S) := fun x hx =>
        hx.keeps (P := fun x => H x = H i ∨ H x ∈ S) (fun a b ha e => by
          rcases ha with ha | ha
          · by_cases hb : H b = H i
            · exact .inl hb
            · exact .inr (h3 (H b) (mem_betw.2 ⟨a, b, e, ha, rfl, fun e => hb e.symm⟩))
          · by_cases hb : H b = H a
            · exact .inr (by rw [hb]; exact ha)
            · exact .inr (hc (H a) ha (H b) (mem_betw.2 ⟨a, b, e, rfl, rfl, fun e => hb e.symm⟩))) (.inl rfl)
      rcases key j hr.rt with h | h
      · exact .inl h
      · exact .inr (.inr h)
    · exact .inr (.inl hr)
  · rintro ⟨h1, h2⟩
    refine ⟨h.lt i hi, h1, fun d hd => ?_⟩
    obtain ⟨a, b, he, ha, hb, hne⟩ := mem_betw.1 hd
    have r1 := h.reach hi he.1 ha.symm
    rcases h2 b he.2.1 with h3 | h3 | h3
    · exact absurd (by rw [← hb, h3]) hne
    · refine absurd ?_ h3
      rcases r1.1.rp with e | e
      · rw [e]; exact ⟨b, he, .refl _⟩
      · exact e.trans ⟨b, he, .refl _⟩
    · rw [← hb]; exact h3
/-- The nodes of one component, by the page. -/
theorem same_iff (h : CN n E m H) {i j : Nat} (hi : i < n) (hj : j < n) : H j = H i ↔ j = i ∨ (RP (Edge n E) i j ∧ RP (Edge n E) j i) := by
  rw [h.same j i hj hi]
  constructor
  · rintro ⟨h1, h2⟩
    rcases h1.rp with e | e
    · exact .inl e
    · rcases h2.rp with e2 | e2
      · exact .inl e2.symm
      · exact .inr ⟨e2, e⟩
  · rintro (rfl | ⟨h1, h2⟩)
    · exact ⟨.refl _, .refl _⟩
    · exact ⟨h2.rt, h1.rt⟩
end
end Go.Proofs.Ytfpocoaddmgakaa
