/- Mathematics of the topological order: always the least component that leads to placed ones only. -/
import Derived.Test.YtfpocoaddmgakaaBw
import Derived.Test.YtfpocoaddmgakaaHp7
namespace Go.Proofs.Ytfpocoaddmgakaa
set_option linter.unusedVariables false
set_option linter.unusedSimpArgs false

theorem nd_len : ∀ (m : Nat) (l : List Nat), l.Nodup → (∀ x ∈ l, x < m) → l.length ≤ m := by
  intro m
  induction m with
  | zero =>
    intro l _ h
    cases l with
    | nil => simp
    | cons x l => exact absurd (h x List.mem_cons_self) (by omega)
  | succ m ih =>
    intro l hn h
    by_cases hm : m ∈ l
    · have := ih (l.erase m) (hn.erase m) (fun x hx => by
        have h1 := h x (List.mem_of_mem_erase hx)
        have h2 : x ≠ m := (hn.mem_erase_iff.1 hx).1
        omega)
      rw [List.length_erase_of_mem hm] at this; omega
    · have := ih l hn (fun x hx => by
        have h1 := h x hx
        have h2 : x ≠ m := fun e => hm (e ▸ hx)
        omega)
      omega

/-- How many edges lead from a to what is not placed. -/
def cntE (ES : List (Nat × Nat)) (S : List Nat) (a : Nat) : Nat := ES.countP fun e => decide (e.1 = a ∧ e.2 ∉ S)
def usersOf (ES : List (Nat × Nat)) (b : Nat) : List Nat := (ES.filter fun e => decide (e.2 = b)).map (·.1)
theorem cnt_push {ES : List (Nat × Nat)} {S : List Nat} {c : Nat} (hc : c ∉ S) (a : Nat) : cntE ES S a = cntE ES (S ++ [c]) a + (usersOf ES c).count a := by
  induction ES with
  | nil => rfl
  | cons e ES ih =>
    unfold cntE usersOf at *
    rw [List.countP_cons, List.countP_cons, List.filter_cons, ih]
    by_cases h2 : e.2 = c
    · have hS : e.2 ∉ S := by rw [h2]; exact hc
      have hS2 : e.2 ∈ S ++ [c] := by simp [h2]
      simp only [h2, decide_true, if_true, List.map_cons, List.count_cons]
      by_cases h1 : e.1 = a
      · simp [h1, hc]; omega
      · simp [h1]
    · have hS : (e.2 ∉ S ++ [c]) ↔ e.2 ∉ S := by simp [h2]
      simp only [h2, decide_false, hS]
      simp; omega
theorem cnt_zero {ES : List (Nat × Nat)} {S : List Nat} {a : Nat} : cntE ES S a = 0 ↔ ∀ b, (a, b) ∈ ES → b ∈ S := by
  unfold cntE
  rw [List.countP_eq_zero]
  constructor
  · intro h b hb
    have := h _ hb
    simpa using this
  · intro h e he
    obtain ⟨x, y⟩ := e
    simp only [decide_eq_true_eq, not_and, Decidable.not_not]
    rintro rfl
    exact h y he
theorem mem_users {ES : List (Nat × Nat)} {a b : Nat} : a ∈ usersOf ES b ↔ (a, b) ∈ ES := by
  unfold usersOf
  constructor
  · intro h
    obtain ⟨e, he, rfl⟩ := List.mem_map.1 h
    obtain ⟨h1, h2⟩ := List.mem_filter.1 he
    have h2 : e.2 = b := by simpa using h2
    rw [← h2]; exact h1
  · intro h
    exact List.mem_map.2 ⟨(a, b), List.mem_filter.2 ⟨h, by simp⟩, rfl⟩

/-- It may be placed next. -/
def Ready (m : Nat) (ES : List (Nat × Nat)) (S : List Nat) (a : Nat) : Prop := a < m ∧ a ∉ S ∧ ∀ b, (a, b) ∈ ES → b ∈ S
/-- Always the least one that may be next. -/
inductive Greedy (m : Nat) (ES : List (Nat × Nat)) : List Nat → Prop
  | nil : Greedy m ES []
  | snoc {S : List Nat} {c : Nat} : Greedy m ES S → Ready m ES S c → (∀ a, Ready m ES S a → c ≤ a) → Greedy m ES (S ++ [c])
theorem Greedy.ok {m : Nat} {ES : List (Nat × Nat)} {S : List Nat} (h : Greedy m ES S) : (∀ a ∈ S, a < m) ∧ S.Nodup ∧ ∀ a ∈ S, ∀ b, (a, b) ∈ ES → b ∈ S := by
  induction h with
  | nil => exact ⟨(fun a h => by simp at h), List.nodup_nil, (fun a h => by simp at h)⟩
  | @snoc S c hS hr hl ih =>
    obtain ⟨h1, h2, h3⟩ := ih
    refine ⟨fun a ha => ?_, ?_, fun a ha b hb => ?_⟩
    · rcases List.mem_append.1 ha with h | h
      · exact h1 a h
      · rw [List.mem_singleton.1 h]; exact hr.1
    · rw [List.nodup_append]
      exact ⟨h2, by simp, fun x hx y hy e => hr.2.1 (by rw [← List.mem_singleton.1 hy, ← e]; exact hx)⟩
    · rcases List.mem_append.1 ha with h | h
      · exact List.mem_append.2 (.inl (h3 a h b hb))
      · rw [List.mem_singleton.1 h] at hb; exact List.mem_append.2 (.inl (hr.2.2 b hb))

/-- Between two components. -/
structure KI (m : Nat) (ES : List (Nat × Nat)) (S : List Nat) (W : Nat → Nat) (bag : List (Int × Int)) (p : Int) : Prop where
  gr : Greedy m ES S
  w : ∀ a, a < m → W a = cntE ES S a
  bg : ∀ x : Int, x ∈ bag.map (·.1) ↔ ∃ a : Nat, x = (a : Int) ∧ Ready m ES S a
  nd : (bag.map (·.1)).Nodup
  cnt : p = ((bag.length + S.length : Nat) : Int)
/-- .. while one is placed, j of whose users were told. -/
structure KJ (m : Nat) (ES : List (Nat × Nat)) (S : List Nat) (c j : Nat) (W : Nat → Nat) (bag : List (Int × Int)) (p : Int) : Prop where
  gr : Greedy m ES S
  rd : Ready m ES S c
  ls : ∀ a, Ready m ES S a → c ≤ a
  w : ∀ a, a < m → W a = cntE ES (S ++ [c]) a + ((usersOf ES c).drop j).count a
  bg : ∀ x : Int, x ∈ bag.map (·.1) ↔ ∃ a : Nat, x = (a : Int) ∧ a < m ∧ W a = 0 ∧ a ∉ S ++ [c]
  nd : (bag.map (·.1)).Nodup
  cnt : p = ((bag.length + S.length + 1 : Nat) : Int)

theorem bag_nat {m : Nat} {bag : List (Int × Int)} {P : Nat → Prop} (hb : ∀ x : Int, x ∈ bag.map (·.1) ↔ ∃ a : Nat, x = (a : Int) ∧ P a) (nd : (bag.map (·.1)).Nodup) : ∃ l : List Nat, l.length = bag.length ∧ l.Nodup ∧ ∀ a ∈ l, P a := by
  refine ⟨(bag.map (·.1)).map Int.toNat, by simp, ?_, fun a ha => ?_⟩
  · refine List.Pairwise.map _ (fun x y hxy => hxy) ?_ |> fun h => h
    refine nd.imp_of_mem (fun {x y} hx hy hne e => hne ?_)
    obtain ⟨a, rfl, _⟩ := (hb x).1 hx
    obtain ⟨b, rfl, _⟩ := (hb y).1 hy
    have e : ((a : Int)).toNat = ((b : Int)).toNat := e
    omega
  · obtain ⟨x, hx, rfl⟩ := List.mem_map.1 ha
    obtain ⟨a, rfl, h⟩ := (hb x).1 hx
    simpa using h
theorem KI.len {m : Nat} {ES : List (Nat × Nat)} {S : List Nat} {W : Nat → Nat} {bag : List (Int × Int)} {p : Int} (h : KI m ES S W bag p) : bag.length + S.length ≤ m := by
  obtain ⟨l, e, nd, hl⟩ := bag_nat (m := m) h.bg h.nd
  obtain ⟨h1, h2, _⟩ := h.gr.ok
  have := nd_len m (l ++ S) (by
    rw [List.nodup_append]
    exact ⟨nd, h2, fun x hx y hy e => (hl x hx).2.1 (e ▸ hy)⟩) (fun x hx => by
    rcases List.mem_append.1 hx with h | h
    · exact (hl x h).1
    · exact h1 x h)
  rw [List.length_append, e] at this; exact this
theorem KJ.len {m : Nat} {ES : List (Nat × Nat)} {S : List Nat} {c j : Nat} {W : Nat → Nat} {bag : List (Int × Int)} {p : Int} (h : KJ m ES S c j W bag p) : bag.length + S.length + 1 ≤ m := by
  obtain ⟨l, e, nd, hl⟩ := bag_nat (m := m) h.bg h.nd
  obtain ⟨h1, h2, _⟩ := (Greedy.snoc h.gr h.rd h.ls).ok
  have := nd_len m (l ++ (S ++ [c])) (by
    rw [List.nodup_append]
    exact ⟨nd, h2, fun x hx y hy e => (hl x hx).2.2 (e ▸ hy)⟩) (fun x hx => by
    rcases List.mem_append.1 hx with h | h
    · exact (hl x h).1
    · exact h1 x h)
  simp only [List.length_append, e, List.length_cons, List.length_nil] at this; omega

/-- The least one is taken. -/
theorem KI.pop {m : Nat} {ES : List (Nat × Nat)} {S : List Nat} {W : Nat → Nat} {bag bag' : List (Int × Int)} {p : Int} (h : KI m ES S W bag p) {x : Int × Int} (hp : bag.Perm (x :: bag')) (hl : ∀ y ∈ bag', ltL y x = false) : ∃ c : Nat, x.1 = (c : Int) ∧ KJ m ES S c 0 W bag' p := by
  have hpm := hp.map (·.1)
  have nd2 := (hpm.nodup_iff).1 h.nd
  rw [List.map_cons, List.nodup_cons] at nd2
  obtain ⟨c, hc, hr⟩ := (h.bg x.1).1 (hpm.mem_iff.2 (by simp))
  have hls : ∀ a, Ready m ES S a → c ≤ a := fun a ha => by
    have h1 := (h.bg (a : Int)).2 ⟨a, rfl, ha⟩
    have h2 := hpm.mem_iff.1 h1
    rw [List.map_cons, List.mem_cons] at h2
    rcases h2 with h2 | h2
    · omega
    · obtain ⟨y, hy, e⟩ := List.mem_map.1 h2
      have := hl y hy
      rw [ltL_not] at this
      omega
  refine ⟨c, hc, h.gr, hr, hls, fun a ha => ?_, fun z => ?_, nd2.2, ?_⟩
  · rw [h.w a ha, List.drop_zero, cnt_push hr.2.1]
  · have key : z ∈ bag'.map (·.1) ↔ z ∈ bag.map (·.1) ∧ z ≠ x.1 := by
      rw [hpm.mem_iff, List.map_cons, List.mem_cons]
      constructor
      · intro hz; exact ⟨.inr hz, fun e => nd2.1 (e ▸ hz)⟩
      · rintro ⟨h1 | h1, h2⟩
        · exact absurd h1 h2
        · exact h1
    rw [key, h.bg, hc]
    constructor
    · rintro ⟨⟨a, rfl, h1, h2, h3⟩, hne⟩
      exact ⟨a, rfl, h1, by rw [h.w a h1]; exact cnt_zero.2 h3, by simp; exact ⟨h2, fun e => hne (by rw [e])⟩⟩
    · rintro ⟨a, rfl, h1, h2, h3⟩
      rw [h.w a h1] at h2
      simp at h3
      exact ⟨⟨a, rfl, h1, h3.1, cnt_zero.1 h2⟩, fun e => h3.2 (by omega)⟩
  · rw [h.cnt, hp.length_eq, List.length_cons]; congr 1; omega
/-- One user is told. -/
theorem KJ.tell {m : Nat} {ES : List (Nat × Nat)} {S : List Nat} {c j : Nat} {W : Nat → Nat} {bag : List (Int × Int)} {p : Int} (h : KJ m ES S c j W bag p) {u : Nat} (hu : (usersOf ES c)[j]? = some u) (hum : u < m) :
    1 ≤ W u ∧ (W u ≠ 1 → KJ m ES S c (j + 1) (upd W u (W u - 1)) bag p) ∧ (W u = 1 → KJ m ES S c (j + 1) (upd W u (W u - 1)) (((u : Int), p) :: bag) (p + 1)) := by
  have hj := (List.getElem?_eq_some_iff.1 hu).1
  have hd : (usersOf ES c).drop j = u :: (usersOf ES c).drop (j + 1) := by
    rw [List.drop_eq_getElem_cons hj]
    congr 1
    rw [List.getElem?_eq_getElem hj] at hu; exact Option.some.inj hu
  have hw := h.w
  rw [hd] at hw
  have hu1 : W u = cntE ES (S ++ [c]) u + (((usersOf ES c).drop (j + 1)).count u + 1) := by rw [hw u hum, List.count_cons]; simp
  have hw' : ∀ a, a < m → upd W u (W u - 1) a = cntE ES (S ++ [c]) a + ((usersOf ES c).drop (j + 1)).count a := fun a ha => by
    by_cases e : a = u
    · subst e; rw [upd_same, hu1]; omega
    · rw [upd_ne _ _ e, hw a ha, List.count_cons]; simp; exact fun h => e h.symm
  have huS : u ∉ S ++ [c] := fun hin => by
    have h0 : cntE ES S u = 0 := cnt_zero.2 (by
      rcases List.mem_append.1 hin with h1 | h1
      · exact h.gr.ok.2.2 u h1
      · rw [List.mem_singleton.1 h1]; exact h.rd.2.2)
    have h1 := cnt_push (ES := ES) h.rd.2.1 u
    have h2 : (usersOf ES c).count u = ((usersOf ES c).take j).count u + ((usersOf ES c).drop j).count u := by rw [← List.count_append, List.take_append_drop]
    rw [hd, List.count_cons] at h2
    simp at h2
    omega
  refine ⟨by omega, fun hne => ⟨h.gr, h.rd, h.ls, hw', fun x => ?_, h.nd, h.cnt⟩, fun he => ⟨h.gr, h.rd, h.ls, hw', fun x => ?_, ?_, ?_⟩⟩
  · rw [h.bg]
    constructor
    · rintro ⟨a, rfl, h1, h2, h3⟩
      refine ⟨a, rfl, h1, ?_, h3⟩
      by_cases e : a = u
      · subst e; omega
      · rw [upd_ne _ _ e]; exact h2
    · rintro ⟨a, rfl, h1, h2, h3⟩
      refine ⟨a, rfl, h1, ?_, h3⟩
      by_cases e : a = u
      · subst e; rw [upd_same] at h2; omega
      · rw [upd_ne _ _ e] at h2; exact h2
  · rw [List.map_cons, List.mem_cons, h.bg]
    constructor
    · rintro (rfl | ⟨a, rfl, h1, h2, h3⟩)
      · exact ⟨u, rfl, hum, by rw [upd_same]; omega, huS⟩
      · refine ⟨a, rfl, h1, ?_, h3⟩
        by_cases e : a = u
        · subst e; omega
        · rw [upd_ne _ _ e]; exact h2
    · rintro ⟨a, rfl, h1, h2, h3⟩
      by_cases e : a = u
      · subst e; exact .inl rfl
      · rw [upd_ne _ _ e] at h2; exact .inr ⟨a, rfl, h1, h2, h3⟩
  · rw [List.map_cons, List.nodup_cons]
    refine ⟨fun hin => ?_, h.nd⟩
    obtain ⟨a, e, h1, h2, h3⟩ := (h.bg _).1 hin
    have e' : u = a := by have e : (u : Int) = (a : Int) := e; omega
    subst e'; omega
  · rw [h.cnt, List.length_cons]; omega
/-- All users were told. -/
theorem KJ.done {m : Nat} {ES : List (Nat × Nat)} {S : List Nat} {c j : Nat} {W : Nat → Nat} {bag : List (Int × Int)} {p : Int} (h : KJ m ES S c j W bag p) (hj : (usersOf ES c).length ≤ j) : KI m ES (S ++ [c]) W bag p := by
  have hw : ∀ a, a < m → W a = cntE ES (S ++ [c]) a := fun a ha => by rw [h.w a ha, List.drop_eq_nil_of_le hj]; simp
  refine ⟨Greedy.snoc h.gr h.rd h.ls, hw, fun x => ?_, h.nd, by rw [h.cnt]; simp; omega⟩
  rw [h.bg]
  constructor
  · rintro ⟨a, rfl, h1, h2, h3⟩
    exact ⟨a, rfl, h1, h3, cnt_zero.1 (by rw [← hw a h1]; exact h2)⟩
  · rintro ⟨a, rfl, h1, h2, h3⟩
    exact ⟨a, rfl, h1, by rw [hw a h1]; exact cnt_zero.2 h3, h2⟩
/-- None is left that may be next. -/
theorem KI.stop {m : Nat} {ES : List (Nat × Nat)} {S : List Nat} {W : Nat → Nat} {p : Int} (h : KI m ES S W [] p) : ∀ a, ¬ Ready m ES S a := fun a ha => by
  have := (h.bg (a : Int)).2 ⟨a, rfl, ha⟩
  simp at this

/-- What is greedy is so in one way only. -/
theorem Greedy.unique {m : Nat} {ES : List (Nat × Nat)} {S : List Nat} (h : Greedy m ES S) : ∀ {T : List Nat}, Greedy m ES T → S.length ≤ T.length → S = T.take S.length := by
  induction h with
  | nil => intro T _ _; simp
  | @snoc S c hS hr hl ih =>
    intro T hT hlen
    simp only [List.length_append, List.length_cons, List.length_nil] at hlen ⊢
    have e := ih hT (by omega)
    -- the element of T at that place
    have key : ∀ {T : List Nat}, Greedy m ES T → ∀ i (hi : i < T.length), Ready m ES (T.take i) T[i] ∧ ∀ a, Ready m ES (T.take i) a → T[i] ≤ a := by
      intro T hT
      induction hT with
      | nil => intro i hi; simp at hi
      | @snoc T d hT hr hl ih =>
        intro i hi
        simp only [List.length_append, List.length_cons, List.length_nil] at hi
        by_cases h : i < T.length
        · rw [List.take_append_of_le_length (by omega), List.getElem_append_left h]
          exact ih i h
        · obtain rfl : i = T.length := by omega
          simp
          exact ⟨hr, hl⟩
    obtain ⟨k1, k2⟩ := key hT S.length (by omega)
    rw [← e] at k1 k2
    have h1 := hl _ k1
    have h2 := k2 _ hr
    rw [List.take_succ_eq_append_getElem (by omega), ← e]
    congr 2
    omega
end Go.Proofs.Ytfpocoaddmgakaa
