/- The mathematics of best's Add. -/
import Derived.Test.YtcecndjkfdaaaaaBs10
namespace Go.Proofs.Ytcecndjkfdaaaaa
open Go.RowKit Go.Maps
set_option linter.unusedVariables false
set_option linter.unusedSimpArgs false

/-- A row as a key and a cost. -/
def entR (wd : Nat) (r : List Int) : Ent := (r.take wd, r[wd]?.getD 0)
def foldE (great : Bool) (es l : List Ent) : List Ent := l.foldl (fun es e => putE great es e.1 e.2) es
def putsTo (great : Bool) (wd : Nat) (es : List Ent) (rs : List (List Int)) (m : Nat) : List Ent := foldE great es ((rs.take m).map (entR wd))
theorem putsTo_succ {great : Bool} {wd : Nat} {es : List Ent} {rs : List (List Int)} {m : Nat} (h : m < rs.length) : putsTo great wd es rs (m + 1) = putE great (putsTo great wd es rs m) ((rowAt rs m).take wd) ((rowAt rs m)[wd]?.getD 0) := by
  unfold putsTo foldE
  rw [List.take_succ_eq_append_getElem h, List.map_append, List.foldl_append]
  have : rowAt rs m = rs[m] := by simp [rowAt, h]
  rw [this]; rfl
theorem fold_len (great : Bool) (es l : List Ent) : (foldE great es l).length ≤ es.length + l.length := by
  unfold foldE
  induction l generalizing es with
  | nil => simp
  | cons e l ih =>
    rw [List.foldl_cons, List.length_cons]
    have := ih (putE great es e.1 e.2)
    rw [put_len] at this
    split at this <;> omega
theorem putsTo_len (great : Bool) (wd : Nat) (es : List Ent) (rs : List (List Int)) (m : Nat) : (putsTo great wd es rs m).length ≤ es.length + rs.length := by
  have := fold_len great es ((rs.take m).map (entR wd))
  unfold putsTo
  rw [List.length_map, List.length_take] at this
  omega
/-- The indices of what has changed. -/
structure Chg (great : Bool) (es es' : List Ent) (ch : List Int) : Prop where
  mono : ∀ k d0, lookE es k = some d0 → ∃ d, lookE es' k = some d ∧ betterB great d0 d = false
  rng : ∀ i ∈ ch, ∃ j : Nat, i = (j : Int) ∧ j < es'.length
  chg : ∀ (j : Nat) e, es'[j]? = some e → ((j : Int) ∈ ch ↔ lookE es e.1 ≠ some e.2)
theorem Chg.start (great : Bool) {es : List Ent} (hd : DistE es) : Chg great es es [] :=
  ⟨fun k d0 h => ⟨d0, h, better_irr _ _⟩, (fun i hi => by cases hi), (fun j e he => by
    have : lookE es e.1 = some e.2 := (mem_look hd e.1 e.2).1 (List.mem_of_getElem? he)
    simp [this])⟩
theorem put_false {great : Bool} {es : List Ent} {k : List Int} {c : Int} (h : putB great es k c = false) : putE great es k c = es := by
  unfold putB at h
  unfold putE
  cases hl : lookE es k with
  | none => rw [hl] at h; cases h
  | some d => rw [hl] at h; simp only at h ⊢; rw [if_neg (by rw [h]; simp)]
theorem better_tr {g : Bool} {c d d0 : Int} (h1 : betterB g c d = true) (h2 : betterB g d0 d = false) : betterB g d0 c = false ∧ c ≠ d0 := by
  rcases better_cases g with ⟨_, hb⟩ | ⟨_, hb⟩
  · simp only [hb, decide_eq_true_eq, decide_eq_false_iff_not] at *; omega
  · simp only [hb, decide_eq_true_eq, decide_eq_false_iff_not] at *; omega
theorem Chg.put {great : Bool} {es es' : List Ent} {ch : List Int} (h : Chg great es es' ch) {k : List Int} {c : Int} (hp : putB great es' k c = true) : Chg great es (putE great es' k c) (ch ++ [(spotE (putE great es' k c) k : Int)]) := by
  cases hl : lookE es' k with
  | none =>
    have e1 : putE great es' k c = es' ++ [(k, c)] := by unfold putE; rw [hl]; exact upd_new hl c
    rw [e1, spot_new hl]
    have hno : lookE es k = none := by
      cases h0 : lookE es k with
      | none => rfl
      | some d0 => obtain ⟨d, hd, _⟩ := h.mono k d0 h0; rw [hl] at hd; cases hd
    refine ⟨fun k0 d0 h0 => ?_, fun i hi => ?_, fun j e he => ?_⟩
    · obtain ⟨d, hd, hb⟩ := h.mono k0 d0 h0
      refine ⟨d, ?_, hb⟩
      rw [← upd_new hl, look_upd, if_neg (fun e => by rw [e] at hl; rw [hl] at hd; cases hd)]
      exact hd
    · rcases List.mem_append.1 hi with hi | hi
      · obtain ⟨j, e, hj⟩ := h.rng i hi
        exact ⟨j, e, by simp; omega⟩
      · exact ⟨es'.length, by simpa using hi, by simp⟩
    · by_cases hj : j < es'.length
      · rw [List.getElem?_append_left hj] at he
        rw [← h.chg j e he]
        simp only [List.mem_append, List.mem_singleton]
        constructor
        · rintro (h1 | h1)
          · exact h1
          · omega
        · exact .inl
      · have hj2 : j = es'.length := by
          have := (List.getElem?_eq_some_iff.1 he).1
          simp at this; omega
        subst hj2
        simp at he
        subst he
        simp [hno]
  | some d =>
    have hbt : betterB great c d = true := by unfold putB at hp; rw [hl] at hp; exact hp
    have e1 : putE great es' k c = updE es' k c := by unfold putE; rw [hl]; simp [hbt]
    rw [e1, spot_upd hl]
    have hset := upd_set hl c
    have hsl := spot_lt hl
    refine ⟨fun k0 d0 h0 => ?_, fun i hi => ?_, fun j e he => ?_⟩
    · obtain ⟨d1, hd, hb⟩ := h.mono k0 d0 h0
      rw [look_upd]
      by_cases hk : k = k0
      · subst hk
        rw [hl] at hd
        cases hd
        exact ⟨c, by simp, (better_tr hbt hb).1⟩
      · rw [if_neg hk]; exact ⟨d1, hd, hb⟩
    · rw [hset, List.length_set]
      rcases List.mem_append.1 hi with hi | hi
      · exact h.rng i hi
      · exact ⟨spotE es' k, by simpa using hi, hsl⟩
    · rw [hset, List.getElem?_set] at he
      by_cases hj : spotE es' k = j
      · subst hj
        rw [if_pos rfl, if_pos hsl] at he
        cases he
        simp only [List.mem_append, List.mem_singleton, or_true, true_iff, ne_eq]
        intro h0
        obtain ⟨d1, hd, hb⟩ := h.mono k c h0
        rw [hl] at hd
        cases hd
        rw [hbt] at hb; cases hb
      · rw [if_neg hj] at he
        rw [← h.chg j e he]
        simp only [List.mem_append, List.mem_singleton]
        constructor
        · rintro (h1 | h1)
          · exact h1
          · omega
        · exact .inl
/-- Those that are the best ones now, and weren't before. -/
def news (es es' : List Ent) : List Ent := es'.filter fun e => decide (lookE es e.1 ≠ some e.2)
def rowI (es : List Ent) (i : Int) : List Int := rowE (es[i.toNat]?.getD ([], 0))
theorem chg_rel {great : Bool} {es es' : List Ent} {ch : List Int} (h : Chg great es es' ch) (wd : Int) : relOf wd (ch.map (rowI es')) = relOf wd ((news es es').map rowE) := by
  refine sorted_ext (rel_sorted _ _) (rel_sorted _ _) (fun x => ?_)
  rw [mem_rel, mem_rel]
  have : x ∈ ch.map (rowI es') ↔ x ∈ (news es es').map rowE := by
    rw [List.mem_map, List.mem_map]
    constructor
    · rintro ⟨i, hi, rfl⟩
      obtain ⟨j, rfl, hj⟩ := h.rng i hi
      have he : es'[j]? = some es'[j] := List.getElem?_eq_getElem hj
      refine ⟨es'[j], List.mem_filter.2 ⟨List.getElem_mem hj, ?_⟩, ?_⟩
      · simpa using (h.chg j _ he).1 hi
      · simp [rowI, he]
    · rintro ⟨e, he, rfl⟩
      obtain ⟨h1, h2⟩ := List.mem_filter.1 he
      obtain ⟨j, hj, rfl⟩ := List.getElem_of_mem h1
      have he2 : es'[j]? = some es'[j] := List.getElem?_eq_getElem hj
      refine ⟨(j : Int), (h.chg j _ he2).2 (by simpa using h2), ?_⟩
      simp [rowI, he2]
  rw [this]
theorem news_self {es : List Ent} (hd : DistE es) : news es es = [] := by
  unfold news
  rw [List.filter_eq_nil_iff]
  intro e he
  have : lookE es e.1 = some e.2 := (mem_look hd e.1 e.2).1 he
  simp [this]
theorem news_nil (es : List Ent) : news [] es = es := by
  unfold news
  rw [List.filter_eq_self]
  intro e he
  simp [lookE]
theorem fold_id {great : Bool} {es l : List Ent} (h : ∀ e ∈ l, ∃ d, lookE es e.1 = some d ∧ betterB great e.2 d = false) : foldE great es l = es := by
  unfold foldE
  induction l with
  | nil => rfl
  | cons e l ih =>
    rw [List.foldl_cons]
    obtain ⟨d, h1, h2⟩ := h e (List.mem_cons_self ..)
    have : putE great es e.1 e.2 = es := put_false (by unfold putB; rw [h1]; exact h2)
    rw [this]
    exact ih (fun x hx => h x (List.mem_cons_of_mem _ hx))
theorem BestIn.fold {great : Bool} {l0 es : List Ent} (h : BestIn great l0 es) (l : List Ent) : BestIn great (l0 ++ l) (foldE great es l) := by
  induction l generalizing l0 es with
  | nil => simpa [foldE] using h
  | cons e l ih =>
    have := ih (h.put e.1 e.2)
    rw [List.append_assoc] at this
    exact this
/-- What is there comes in no more. -/
theorem fold_again (great : Bool) (l : List Ent) : foldE great (foldE great [] l) l = foldE great [] l := by
  have hb : BestIn great l (foldE great [] l) := by simpa using (BestIn.nil great).fold l
  refine fold_id (fun e he => ?_)
  cases hl : lookE (foldE great [] l) e.1 with
  | none => exact absurd he (hb.2 e.1 hl e.2)
  | some d => exact ⟨d, rfl, ((hb.1 e.1 d).1 hl).2 e.2 he⟩
theorem entR_rowE {wd : Nat} {e : Ent} (h : e.1.length = wd) : entR wd (rowE e) = e := by
  unfold entR rowE
  subst h
  simp
theorem fold_own (great : Bool) {wd : Nat} {es : List Ent} (hok : OkE wd es) : foldE great es ((relOf ((wd + 1 : Nat) : Int) (es.map rowE)).map (entR wd)) = es := by
  refine fold_id (fun e he => ?_)
  obtain ⟨r, hr, rfl⟩ := List.mem_map.1 he
  obtain ⟨e2, he2, rfl⟩ := List.mem_map.1 ((rows_mem hok r).1 hr)
  rw [entR_rowE (hok.len e2 he2)]
  exact ⟨e2.2, (mem_look hok.dist e2.1 e2.2).1 he2, better_irr _ _⟩
end Go.Proofs.Ytcecndjkfdaaaaa
