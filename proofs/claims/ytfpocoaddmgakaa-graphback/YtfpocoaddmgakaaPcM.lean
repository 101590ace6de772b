/- Mathematics and memory of the page's Components. -/
import Derived.Test.YtfpocoaddmgakaaRc
namespace Go.Proofs.Ytfpocoaddmgakaa
open Go.RowKit
set_option linter.unusedVariables false
set_option linter.unusedSimpArgs false

theorem cls_succ (k : Nat) (H : Nat → Nat) (c : Nat) : cls (k + 1) H c = if H k = c then cls k H c ++ [(k : Int)] else cls k H c := by
  unfold cls
  rw [List.range_succ, List.filter_append, List.map_append]
  by_cases e : H k = c <;> simp [e]
theorem mem_cls {k : Nat} {H : Nat → Nat} {c : Nat} {x : Int} : x ∈ cls k H c ↔ ∃ v : Nat, v < k ∧ H v = c ∧ x = (v : Int) := by
  unfold cls
  simp only [List.mem_map, List.mem_filter, List.mem_range, beq_iff_eq]
  constructor
  · rintro ⟨v, ⟨h1, h2⟩, rfl⟩; exact ⟨v, h1, h2, rfl⟩
  · rintro ⟨v, h1, h2, rfl⟩; exact ⟨v, ⟨h1, h2⟩, rfl⟩
/-- Whose component stands already. -/
def dn (H : Nat → Nat) (S : List Nat) : Nat → Bool := fun j => decide (H j ∈ S)
def cntS (n : Nat) (H : Nat → Nat) (S : List Nat) : Nat := (List.range n).countP (dn H S)
theorem countP_or {p q r : Nat → Bool} : ∀ {l : List Nat}, (∀ x ∈ l, r x = (p x || q x)) → (∀ x ∈ l, ¬ (p x = true ∧ q x = true)) → l.countP r = l.countP p + l.countP q
  | [], _, _ => rfl
  | x :: l, h, hd => by
    have ih := countP_or (l := l) (fun y hy => h y (List.mem_cons_of_mem _ hy)) (fun y hy => hd y (List.mem_cons_of_mem _ hy))
    have h1 := h x List.mem_cons_self
    have h2 := hd x List.mem_cons_self
    rw [List.countP_cons, List.countP_cons, List.countP_cons, ih, h1]
    cases hp : p x <;> cases hq : q x <;> simp_all <;> omega
theorem cntS_add {n : Nat} {H : Nat → Nat} {S : List Nat} {c : Nat} (hc : c ∉ S) : cntS n H (S ++ [c]) = cntS n H S + (cls n H c).length := by
  have e : (cls n H c).length = (List.range n).countP fun v => H v == c := by
    unfold cls; rw [List.length_map, List.countP_eq_length_filter]
  rw [e]
  refine countP_or (fun x _ => ?_) (fun x _ h => ?_)
  · unfold dn
    by_cases h1 : H x ∈ S <;> by_cases h2 : H x = c <;> simp [h1, h2]
  · obtain ⟨h1, h2⟩ := h
    have h1 := of_decide_eq_true h1
    have h2 := beq_iff_eq.1 h2
    exact hc (h2 ▸ h1)
theorem cntS_le (n : Nat) (H : Nat → Nat) (S : List Nat) : cntS n H S ≤ n := by
  have := List.countP_le_length (p := dn H S) (l := List.range n)
  rw [List.length_range] at this
  exact this
theorem cntS_nil (n : Nat) (H : Nat → Nat) : cntS n H [] = 0 := by
  unfold cntS; rw [List.countP_eq_zero]; intro x _; simp [dn]
theorem cntS_full {n : Nat} {H : Nat → Nat} {S : List Nat} : cntS n H S = n ↔ ∀ v, v < n → H v ∈ S := by
  have := List.countP_eq_length (p := dn H S) (l := List.range n)
  rw [List.length_range] at this
  unfold cntS
  rw [this]
  constructor
  · intro h v hv; exact of_decide_eq_true (h v (List.mem_range.2 hv))
  · intro h v hv; exact decide_eq_true (h v (List.mem_range.1 hv))
/-- What the page asks of a node's component, the first j nodes asked. -/
def OKJ (M : Nat → Nat → Bool) (D : Nat → Bool) (H : Nat → Nat) (i j : Nat) : Prop := D i = false ∧ ∀ y, y < j → H y = H i ∨ M i y = false ∨ D y = true
theorem okj_step {M : Nat → Nat → Bool} {D : Nat → Bool} {H : Nat → Nat} {i j : Nat} {b s : Bool} (h : b = true ↔ OKJ M D H i j) (hs : s = true ↔ H j = H i) : (b && (s || !M i j || D j)) = true ↔ OKJ M D H i (j + 1) := by
  rw [Bool.and_eq_true, h, Bool.or_eq_true, Bool.or_eq_true, hs]
  unfold OKJ
  constructor
  · rintro ⟨⟨h1, h2⟩, h3⟩
    refine ⟨h1, fun y hy => ?_⟩
    by_cases e : y = j
    · subst e
      rcases h3 with (h3 | h3) | h3
      · exact .inl h3
      · exact .inr (.inl (by simpa using h3))
      · exact .inr (.inr h3)
    · exact h2 y (by omega)
  · rintro ⟨h1, h2⟩
    refine ⟨⟨h1, fun y hy => h2 y (by omega)⟩, ?_⟩
    rcases h2 j (by omega) with h3 | h3 | h3
    · exact .inl (.inl h3)
    · exact .inl (.inr (by simpa using h3))
    · exact .inr h3
section
variable {n : Nat} {E : Nat → List Int} {m : Nat} {H : Nat → Nat} {S : List Nat} {M : Nat → Nat → Bool}
theorem okj_ready (h : CN n E m H) (hg : Greedy m (betwN n E H n) S) (hM : ∀ x y, x < n → y < n → (M x y = true ↔ RP (Edge n E) x y)) {i : Nat} (hi : i < n) : OKJ M (dn H S) H i n ↔ Ready m (betwN n E H n) S (H i) := by
  rw [ready_iff h hg.ok.2.2 hi]
  unfold OKJ dn
  rw [decide_eq_false_iff_not]
  refine and_congr_right (fun _ => forall_congr' fun y => ?_)
  constructor
  · intro h1 hy
    rcases h1 hy with h2 | h2 | h2
    · exact .inl h2
    · exact .inr (.inl (fun h3 => by rw [(hM i y hi hy).2 h3] at h2; cases h2))
    · exact .inr (.inr (of_decide_eq_true h2))
  · intro h1 hy
    rcases h1 hy with h2 | h2 | h2
    · exact .inl h2
    · exact .inr (.inl (by rw [← Bool.not_eq_true, hM i y hi hy]; exact h2))
    · exact .inr (.inr (decide_eq_true h2))
theorem same_b (h : CN n E m H) (hM : ∀ x y, x < n → y < n → (M x y = true ↔ RP (Edge n E) x y)) {i j : Nat} (hi : i < n) (hj : j < n) : H j = H i ↔ j = i ∨ (M i j = true ∧ M j i = true) := by
  rw [same_iff h hi hj, hM i j hi hj, hM j i hj hi]
theorem least_next (h : CN n E m H) {i : Nat} (hi : i < n) (hr : Ready m (betwN n E H n) S (H i)) (hb : ∀ i', i' < i → ¬ Ready m (betwN n E H n) S (H i')) : ∀ a, Ready m (betwN n E H n) S a → H i ≤ a := by
  intro a ha
  rcases Nat.lt_or_ge a (H i) with hl | hl
  · obtain ⟨u, hu, e⟩ := h.first i hi a hl
    exact absurd (e ▸ ha) (hb u hu)
  · exact hl
theorem some_next (h : CN n E m H) (hc : cntS n H S < n) (hb : ∀ i', i' < n → ¬ Ready m (betwN n E H n) S (H i')) : False := by
  have : ∃ v, v < n ∧ H v ∉ S := Classical.byContradiction (fun hno => by
    have : cntS n H S = n := cntS_full.2 (fun v hv => Classical.byContradiction fun h => hno ⟨v, hv, h⟩)
    omega)
  obtain ⟨v, hv, hS⟩ := this
  obtain ⟨a, ha⟩ := ready_exists h hv hS
  obtain ⟨u, hu, e⟩ := h.occ a ha.1
  exact hb u hu (e ▸ ha)
theorem none_next (h : CN n E m H) (hc : cntS n H S = n) : ∀ a, ¬ Ready m (betwN n E H n) S a := fun a ha => by
  obtain ⟨u, hu, e⟩ := h.occ a ha.1
  exact ha.2.1 (e ▸ cntS_full.1 hc u hu)
end

theorem arrB_congr {n : Nat} {f g : Nat → Bool} (h : ∀ i, i < n → f i = g i) : arrB n f = arrB n g := by
  unfold arrB; congr 1; exact List.map_congr_left (fun i hi => by rw [h i (List.mem_range.1 hi)])
/-- While the page's components are gathered: the bools at db, the list ov. -/
structure CW (db : Nat) (w1 wr : World) (n : Nat) (D : Nat → Bool) (ov : Value) (L : List RV) : Prop where
  be : Below db w1 wr
  dn : wr.heap[db]? = some (.cells (arrB n D) 4 (0, 0))
  ul : UL (db + 1) wr ov L
  far : ∀ x ∈ L, ∀ p, x.1 = some p → db < p.block
section
variable {db : Nat} {w1 wr : World} {n : Nat} {D : Nat → Bool} {ov : Value} {L : List RV}
theorem CW.lt (h : CW db w1 wr n D ov L) : db < wr.heap.size := (Array.getElem?_eq_some_iff.1 h.dn).1
theorem CW.below {w' : World} (h : CW db w1 wr n D ov L) (hb : Below wr.heap.size wr w') : CW db w1 w' n D ov L :=
  ⟨h.be.trans (hb.mono (Nat.le_of_lt h.lt)), (hb.block db h.lt).trans h.dn, h.ul.below hb, h.far⟩
theorem CW.congr {D' : Nat → Bool} (h : CW db w1 wr n D ov L) (hc : ∀ i, i < n → D i = D' i) : CW db w1 wr n D' ov L :=
  ⟨h.be, by rw [← arrB_congr hc]; exact h.dn, h.ul, h.far⟩
theorem CW.at (h : CW db w1 wr n D ov L) {j : Nat} (hj : j < n) : wr.cell? ⟨db, j, none⟩ = some (.bool (D j)) ∧ wr.frozen? ⟨db, j, none⟩ = false := by
  refine ⟨?_, frozen_of_row wr _ j _ _ h.dn⟩
  rw [cell_of_row wr _ j _ 4 (0, 0) h.dn, arrB_get hj]
theorem CW.mark (h : CW db w1 wr n D ov L) (j : Nat) : CW db w1 (wr.setCell ⟨db, j, none⟩ (.bool true)) n (upd D j true) ov L := by
  refine ⟨h.be.setCell (p := ⟨db, j, none⟩) (Nat.le_refl _) _, ?_, h.ul.keeps (N := fun b => b = db) ((Keeps.refl (fun b => b = db) wr).setCell (p := ⟨db, j, none⟩) rfl _) (fun b hb e => by have := (h.ul.own.lt b hb).1; omega) (fun x hx p hp e => by have := h.far x hx p hp; omega), h.far⟩
  rw [heap_setCell_same wr db j _ 4 _ h.dn, arrB_set]
theorem CW.push {w2 : World} {v' : Value} (h : CW db w1 wr n D ov L) {x : RV} {o : Obj} (hrow : Row wr x.1 x.2.1) (hcap : x.2.1.length ≤ x.2.2) (hf : ∀ p, x.1 = some p → db < p.block ∧ p.block < wr.heap.size ∧ ov.ownBlock ≠ some p.block)
    (hown : w2.ownsRow (db + 1) 22 1 v' (L.length + 1) (L.map encV ++ [encV x])) (hgrow : (wr.alloc o).grownBy w2 ov.ownBlock) (hat : v'.ownBlock = ov.ownBlock ∨ v'.ownBlock = some (wr.alloc o).heap.size) : CW db w1 w2 n D v' (L ++ [x]) := by
  have hl := h.lt
  refine ⟨?_, ?_, h.ul.push hrow hcap (fun p hp => (hf p hp).2) hown hgrow hat, fun y hy p hp => ?_⟩
  · have b1 : Below db wr w2 := (((Below.refl _ _).alloc (Nat.le_of_lt hl) o).grown hgrow (by simp; omega) (fun k hk => by have := (h.ul.own.lt k hk).1; omega))
    exact h.be.trans b1
  · have k : Keeps (fun b => ov.ownBlock = some b) wr w2 := ((Keeps.refl (fun b => ov.ownBlock = some b) wr).alloc o).trans (Keeps.of_grown hgrow (fun b hb => hb))
    exact (k.block db hl (fun e => by have := (h.ul.own.lt db e).1; omega)).trans h.dn
  · rcases List.mem_append.1 hy with h1 | h1
    · exact h.far y h1 p hp
    · obtain rfl : y = x := by simpa using h1
      exact (hf p hp).1
end
theorem CW.start {w1 : World} {n : Nat} : CW w1.heap.size w1 ((w1.alloc (.cells (madeCells #[.bool false] n) 4)).alloc (.cells #[] 22)) n (fun _ => false) (.slice (some ⟨w1.heap.size + 1, 0, none⟩) 0 0) [] := by
  have e1 : (w1.alloc (.cells (madeCells #[.bool false] n) 4)).heap.size = w1.heap.size + 1 := by simp
  refine ⟨((Below.refl _ _).alloc (Nat.le_refl _) _).alloc (by rw [e1]; omega) _, ?_, ?_, fun x hx => by cases hx⟩
  · rw [heap_alloc_old _ _ (by rw [e1]; omega), heap_alloc_new, madeB]
  · have := UL.nil (w1.heap.size + 1) (w1.alloc (.cells (madeCells #[.bool false] n) 4)) (by rw [e1]; exact Nat.le_refl _)
    rw [e1] at this
    exact this
theorem mark_step {D : Nat → Bool} {l : List Int} {k v : Nat} (h : l[k]? = some (v : Int)) : upd (fun j : Nat => D j || decide ((j : Int) ∈ l.take k)) v true = fun j : Nat => D j || decide ((j : Int) ∈ l.take (k + 1)) := by
  have hj := (List.getElem?_eq_some_iff.1 h).1
  have he : l[k] = (v : Int) := (List.getElem?_eq_some_iff.1 h).2
  funext j
  rw [List.take_succ_eq_append_getElem hj, he]
  by_cases e : j = v
  · subst e; rw [upd_same]; simp
  · rw [upd_ne _ _ e]
    simp [show ¬ (j : Int) = (v : Int) by omega]
theorem mark_all {n : Nat} {H : Nat → Nat} {S : List Nat} {c j : Nat} (hj : j < n) : (dn H S j || decide ((j : Int) ∈ (cls n H c).take (cls n H c).length)) = dn H (S ++ [c]) j := by
  rw [List.take_length]
  have : (j : Int) ∈ cls n H c ↔ H j = c := by
    rw [mem_cls]
    constructor
    · rintro ⟨v, h1, h2, h3⟩
      obtain rfl : j = v := by omega
      exact h2
    · intro h; exact ⟨j, hj, h, rfl⟩
  simp only [this, dn]
  by_cases h1 : H j ∈ S <;> by_cases h2 : H j = c <;> simp [h1, h2]
end Go.Proofs.Ytfpocoaddmgakaa
