/- Keys with their costs: the mathematics of best. -/
import Derived.Test.YtcecndjkfdaaaaaBs3
import Derived.Test.YtcecndjkfdaaaaaRelP
namespace Go.Proofs.Ytcecndjkfdaaaaa
open Go.RowKit
set_option linter.unusedVariables false
set_option linter.unusedSimpArgs false

abbrev Ent := List Int × Int
def lookE : List Ent → List Int → Option Int
  | [], _ => none
  | e :: es, k => if e.1 = k then some e.2 else lookE es k
def spotE : List Ent → List Int → Nat
  | [], _ => 0
  | e :: es, k => if e.1 = k then 0 else spotE es k + 1
def rowE (e : Ent) : List Int := e.1 ++ [e.2]
def DistE (es : List Ent) : Prop := es.Pairwise (fun a b => a.1 ≠ b.1)
/-- A key gets a cost: at its place, or behind all. -/
def updE : List Ent → List Int → Int → List Ent
  | [], k, c => [(k, c)]
  | e :: es, k, c => if e.1 = k then (k, c) :: es else e :: updE es k c
theorem look_upd (es : List Ent) (k k' : List Int) (c : Int) : lookE (updE es k c) k' = if k = k' then some c else lookE es k' := by
  induction es with
  | nil => simp [updE, lookE]
  | cons e es ih =>
    unfold updE
    by_cases h : e.1 = k
    · rw [if_pos h]
      subst h
      by_cases h2 : e.1 = k' <;> simp [lookE, h2]
    · rw [if_neg h]
      unfold lookE
      rw [ih]
      by_cases h2 : e.1 = k'
      · have : ¬ k = k' := fun e2 => h (h2.trans e2.symm)
        simp [h2, this]
      · simp [h2]
theorem spot_lt {es : List Ent} {k : List Int} {c : Int} (h : lookE es k = some c) : spotE es k < es.length := by
  induction es with
  | nil => simp [lookE] at h
  | cons e es ih =>
    unfold spotE
    by_cases h2 : e.1 = k
    · rw [if_pos h2]; simp
    · rw [if_neg h2]
      simp only [lookE, h2, if_false] at h
      have := ih h
      simp; omega
theorem spot_at {es : List Ent} {k : List Int} {c : Int} (h : lookE es k = some c) : es[spotE es k]? = some (k, c) := by
  induction es with
  | nil => simp [lookE] at h
  | cons e es ih =>
    unfold spotE
    by_cases h2 : e.1 = k
    · rw [if_pos h2]
      simp only [lookE, h2, if_true, Option.some.injEq] at h
      simp [← h2, ← h]
    · rw [if_neg h2]
      simp only [lookE, h2, if_false] at h
      simpa using ih h
theorem upd_set {es : List Ent} {k : List Int} {d : Int} (h : lookE es k = some d) (c : Int) : updE es k c = es.set (spotE es k) (k, c) := by
  induction es with
  | nil => simp [lookE] at h
  | cons e es ih =>
    unfold updE spotE
    by_cases h2 : e.1 = k
    · rw [if_pos h2, if_pos h2]; rfl
    · rw [if_neg h2, if_neg h2]
      simp only [lookE, h2, if_false] at h
      rw [ih h]; rfl
theorem upd_new {es : List Ent} {k : List Int} (h : lookE es k = none) (c : Int) : updE es k c = es ++ [(k, c)] := by
  induction es with
  | nil => rfl
  | cons e es ih =>
    unfold updE
    by_cases h2 : e.1 = k
    · simp [lookE, h2] at h
    · rw [if_neg h2]
      simp only [lookE, h2, if_false] at h
      rw [ih h]; rfl
theorem look_none {es : List Ent} {k : List Int} : lookE es k = none ↔ ∀ e ∈ es, e.1 ≠ k := by
  induction es with
  | nil => simp [lookE]
  | cons e es ih =>
    unfold lookE
    by_cases h2 : e.1 = k
    · simp [h2]
    · rw [if_neg h2, ih]; simp [h2]
theorem mem_look {es : List Ent} (hd : DistE es) (k : List Int) (c : Int) : (k, c) ∈ es ↔ lookE es k = some c := by
  induction es with
  | nil => simp [lookE]
  | cons e es ih =>
    obtain ⟨h1, h2⟩ := List.pairwise_cons.1 hd
    unfold lookE
    by_cases h : e.1 = k
    · rw [if_pos h, List.mem_cons]
      subst h
      constructor
      · rintro (e1 | e1)
        · rw [← e1]
        · exact absurd rfl (h1 (e.1, c) e1)
      · intro e1
        left
        simp only [Option.some.injEq] at e1
        rw [← e1]
    · rw [if_neg h, List.mem_cons, ih h2]
      constructor
      · rintro (e1 | e1)
        · exact absurd (by rw [← e1]) h
        · exact e1
      · intro e1; exact .inr e1
theorem mem_upd {es : List Ent} {k : List Int} {c : Int} {e : Ent} (h : e ∈ updE es k c) : e = (k, c) ∨ e ∈ es := by
  induction es with
  | nil => simp [updE] at h; exact .inl h
  | cons x es ih =>
    unfold updE at h
    by_cases h2 : x.1 = k
    · rw [if_pos h2] at h
      rcases List.mem_cons.1 h with h | h
      · exact .inl h
      · exact .inr (List.mem_cons_of_mem _ h)
    · rw [if_neg h2] at h
      rcases List.mem_cons.1 h with h | h
      · exact .inr (h ▸ List.mem_cons_self ..)
      · rcases ih h with h | h
        · exact .inl h
        · exact .inr (List.mem_cons_of_mem _ h)
theorem dist_upd {es : List Ent} (hd : DistE es) (k : List Int) (c : Int) : DistE (updE es k c) := by
  induction es with
  | nil => exact List.pairwise_singleton _ _
  | cons e es ih =>
    obtain ⟨h1, h2⟩ := List.pairwise_cons.1 hd
    unfold updE
    by_cases h : e.1 = k
    · rw [if_pos h]
      exact List.pairwise_cons.2 ⟨fun x hx => by rw [← h]; exact h1 x hx, h2⟩
    · rw [if_neg h]
      refine List.pairwise_cons.2 ⟨fun x hx => ?_, ih h2⟩
      rcases mem_upd hx with rfl | hx
      · exact h
      · exact h1 x hx
/-- A key is given a cost, if it has none or one that is not as good. -/
def putE (great : Bool) (es : List Ent) (k : List Int) (c : Int) : List Ent :=
  match lookE es k with
  | none => updE es k c
  | some d => if betterB great c d = true then updE es k c else es
def putB (great : Bool) (es : List Ent) (k : List Int) (c : Int) : Bool :=
  match lookE es k with
  | none => true
  | some d => betterB great c d
theorem dist_put {es : List Ent} (hd : DistE es) (great : Bool) (k : List Int) (c : Int) : DistE (putE great es k c) := by
  unfold putE
  split
  · exact dist_upd hd k c
  · split
    · exact dist_upd hd k c
    · exact hd
theorem mem_put {great : Bool} {es : List Ent} {k : List Int} {c : Int} {e : Ent} (h : e ∈ putE great es k c) : e = (k, c) ∨ e ∈ es := by
  unfold putE at h
  split at h
  · exact mem_upd h
  · split at h
    · exact mem_upd h
    · exact .inr h
theorem put_len (great : Bool) (es : List Ent) (k : List Int) (c : Int) : (putE great es k c).length = es.length + if (lookE es k).isSome = true then 0 else 1 := by
  unfold putE
  cases h : lookE es k with
  | none => simp [upd_new h]
  | some d => simp only; split <;> simp [upd_set h]
/-- Keys of one width, of numbers in range, none twice. -/
structure OkE (wd : Nat) (es : List Ent) : Prop where
  dist : DistE es
  len : ∀ e ∈ es, e.1.length = wd
  rng : ∀ e ∈ es, InRange e.1
theorem OkE.nil (wd : Nat) : OkE wd [] := ⟨List.Pairwise.nil, (fun e h => by cases h), (fun e h => by cases h)⟩
theorem OkE.put {wd : Nat} {es : List Ent} (h : OkE wd es) (great : Bool) {k : List Int} (hl : k.length = wd) (hr : InRange k) (c : Int) : OkE wd (putE great es k c) :=
  ⟨dist_put h.dist great k c, (fun e he => by
    rcases mem_put he with rfl | he
    · exact hl
    · exact h.len e he), (fun e he => by
    rcases mem_put he with rfl | he
    · exact hr
    · exact h.rng e he)⟩
theorem better_irr (g : Bool) (x : Int) : betterB g x x = false := by cases g <;> simp [betterB]
/-- The best one of a key's costs. -/
def BestOf (great : Bool) (l : List Ent) (k : List Int) (c : Int) : Prop := (k, c) ∈ l ∧ ∀ c', (k, c') ∈ l → betterB great c' c = false
def BestIn (great : Bool) (l es : List Ent) : Prop := (∀ k c, lookE es k = some c ↔ BestOf great l k c) ∧ ∀ k, lookE es k = none → ∀ c, (k, c) ∉ l
theorem BestIn.nil (great : Bool) : BestIn great [] [] := ⟨fun k c => by simp [lookE, BestOf], fun k _ c h => by cases h⟩
theorem look_put (great : Bool) (es : List Ent) (k k' : List Int) (c : Int) : lookE (putE great es k c) k' = if k = k' then (if putB great es k c = true then some c else lookE es k) else lookE es k' := by
  unfold putE putB
  cases h : lookE es k with
  | none => simp only; rw [look_upd]; simp
  | some d =>
    simp only
    by_cases hb : betterB great c d = true
    · rw [if_pos hb, look_upd, if_pos hb]
    · rw [if_neg hb, if_neg hb]
      by_cases hk : k = k'
      · subst hk; rw [if_pos rfl, h]
      · rw [if_neg hk]
theorem better_cases (g : Bool) : (g = false ∧ ∀ x y, betterB g x y = decide (x < y)) ∨ (g = true ∧ ∀ x y, betterB g x y = decide (y < x)) := by
  cases g <;> simp [betterB]
theorem best_iff (great : Bool) (l : List Ent) (k : List Int) (c : Int) (k' : List Int) (c' : Int) : BestOf great (l ++ [(k, c)]) k' c' ↔ if k = k' then ((k, c') ∈ l ∨ c' = c) ∧ (∀ x, (k, x) ∈ l → betterB great x c' = false) ∧ betterB great c c' = false else BestOf great l k' c' := by
  unfold BestOf
  simp only [List.mem_append, List.mem_singleton, Prod.mk.injEq]
  by_cases h : k = k'
  · subst h
    simp only [true_and, if_true]
    constructor
    · rintro ⟨h1, h2⟩; exact ⟨h1, fun x hx => h2 x (.inl hx), h2 c (.inr rfl)⟩
    · rintro ⟨h1, h2, h3⟩
      refine ⟨h1, fun x hx => ?_⟩
      rcases hx with hx | rfl
      · exact h2 x hx
      · exact h3
  · have h' : ¬ k' = k := fun e => h e.symm
    simp [h, h']
theorem BestIn.put {great : Bool} {l es : List Ent} (h : BestIn great l es) (k : List Int) (c : Int) : BestIn great (l ++ [(k, c)]) (putE great es k c) := by
  refine ⟨fun k' c' => ?_, fun k' hn c' hm => ?_⟩
  · rw [look_put, best_iff]
    by_cases hk : k = k'
    · subst hk
      rw [if_pos rfl, if_pos rfl]
      unfold putB
      cases hl : lookE es k with
      | none =>
        have hno := h.2 k hl
        simp only [if_true, Option.some.injEq]
        constructor
        · rintro rfl; exact ⟨.inr rfl, fun x hx => absurd hx (hno x), better_irr _ _⟩
        · rintro ⟨h1, _⟩
          rcases h1 with h1 | h1
          · exact absurd h1 (hno c')
          · exact h1.symm
      | some d =>
        obtain ⟨hd1, hd2⟩ := (h.1 k d).1 hl
        simp only
        rcases better_cases great with ⟨_, hb⟩ | ⟨_, hb⟩
        · simp only [hb, decide_eq_false_iff_not, decide_eq_true_eq] at hd2 ⊢
          by_cases hc : c < d
          · rw [if_pos hc]
            simp only [Option.some.injEq]
            constructor
            · rintro rfl; exact ⟨.inr rfl, fun x hx => by have := hd2 x hx; omega, by omega⟩
            · rintro ⟨h1, h2, h3⟩
              rcases h1 with h1 | h1
              · have := hd2 c' h1; omega
              · exact h1.symm
          · rw [if_neg hc]
            simp only [Option.some.injEq]
            constructor
            · rintro rfl; exact ⟨.inl hd1, hd2, by omega⟩
            · rintro ⟨h1, h2, h3⟩
              have := h2 d hd1
              rcases h1 with h1 | h1
              · have := hd2 c' h1; omega
              · omega
        · simp only [hb, decide_eq_false_iff_not, decide_eq_true_eq] at hd2 ⊢
          by_cases hc : d < c
          · rw [if_pos hc]
            simp only [Option.some.injEq]
            constructor
            · rintro rfl; exact ⟨.inr rfl, fun x hx => by have := hd2 x hx; omega, by omega⟩
            · rintro ⟨h1, h2, h3⟩
              rcases h1 with h1 | h1
              · have := hd2 c' h1; omega
              · exact h1.symm
          · rw [if_neg hc]
            simp only [Option.some.injEq]
            constructor
            · rintro rfl; exact ⟨.inl hd1, hd2, by omega⟩
            · rintro ⟨h1, h2, h3⟩
              have := h2 d hd1
              rcases h1 with h1 | h1
              · have := hd2 c' h1; omega
              · omega
    · rw [if_neg hk, if_neg hk]; exact h.1 k' c'
  · rw [look_put] at hn
    by_cases hk : k = k'
    · subst hk
      rw [if_pos rfl] at hn
      unfold putB at hn
      cases hl : lookE es k with
      | none => rw [hl] at hn; simp at hn
      | some d => rw [hl] at hn; simp only at hn; split at hn <;> cases hn
    · rw [if_neg hk] at hn
      rcases List.mem_append.1 hm with hm | hm
      · exact h.2 k' hn c' hm
      · simp at hm; exact hk hm.1.symm
/-- The same costs in another order: the same best ones. -/
theorem BestIn.same {great : Bool} {l l' es es' : List Ent} (h : BestIn great l es) (h' : BestIn great l' es') (hm : ∀ e, e ∈ l ↔ e ∈ l') (k : List Int) : lookE es k = lookE es' k := by
  apply Option.ext
  intro c
  rw [h.1, h'.1]
  unfold BestOf
  simp only [hm]
theorem rel_same {wd : Nat} {es es' : List Ent} (hd : DistE es) (hd' : DistE es') (h : ∀ k, lookE es k = lookE es' k) : relOf (wd : Int) (es.map rowE) = relOf (wd : Int) (es'.map rowE) := by
  have key : ∀ e, e ∈ es ↔ e ∈ es' := fun e => by
    obtain ⟨k, c⟩ := e
    rw [mem_look hd, mem_look hd', h]
  refine sorted_ext (rel_sorted _ _) (rel_sorted _ _) (fun x => ?_)
  rw [mem_rel, mem_rel]
  simp only [List.mem_map, key]
theorem rowE_inj {e e' : Ent} (h : rowE e = rowE e') : e = e' := by
  unfold rowE at h
  have h1 := List.append_inj' h rfl
  obtain ⟨k, c⟩ := e
  obtain ⟨k', c'⟩ := e'
  simp only [List.cons.injEq, and_true] at h1
  rw [h1.1, h1.2]
theorem rows_mem {wd : Nat} {es : List Ent} (hok : OkE wd es) (x : List Int) : x ∈ relOf ((wd + 1 : Nat) : Int) (es.map rowE) ↔ x ∈ es.map rowE := by
  rw [mem_rel]
  refine ⟨fun h => h.1, fun h => ⟨h, ?_⟩⟩
  obtain ⟨e, he, rfl⟩ := List.mem_map.1 h
  simp [rowE, hok.len e he]
theorem rows_ne {es : List Ent} (hd : DistE es) : (es.map rowE).Pairwise (· ≠ ·) := by
  rw [List.pairwise_map]
  exact List.Pairwise.imp (fun h e => h (by rw [rowE_inj e])) hd
theorem rows_len {wd : Nat} {es : List Ent} (hok : OkE wd es) : (relOf ((wd + 1 : Nat) : Int) (es.map rowE)).length = es.length := by
  rw [rel_len_eq (fun r h => by obtain ⟨e, he, rfl⟩ := List.mem_map.1 h; simp [rowE, hok.len e he]) (rows_ne hok.dist)]
  simp
theorem len_same {wd : Nat} {es es' : List Ent} (hok : OkE wd es) (hok' : OkE wd es') (h : ∀ k, lookE es k = lookE es' k) : es.length = es'.length := by
  rw [← rows_len hok, ← rows_len hok', rel_same hok.dist hok'.dist h]
end Go.Proofs.Ytcecndjkfdaaaaa
