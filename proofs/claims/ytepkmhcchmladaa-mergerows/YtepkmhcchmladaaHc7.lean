/- A heap of cursors told by the bag of its entries. Written by mkhc.py. -/
import Derived.Test.YtepkmhcchmladaaHc2
import Derived.Test.YtepkmhcchmladaaHc6
namespace Go.Proofs.Ytepkmhcchmladaa.Cu
open Go.RowKit
set_option linter.unusedVariables false
set_option linter.unusedSimpArgs false

abbrev fC : Value := .func (.func 63) #[] #[]
theorem cmpS_neg (a b : List Int) : cmpS a b < 0 ↔ cmpR a b < 0 := by unfold cmpS; split <;> (try split) <;> constructor <;> intro h <;> omega
theorem ltV_iff (a b : RV) : ltV a b = true ↔ cmpR a.2.1 b.2.1 < 0 := by unfold ltV; rw [decide_eq_true_iff, cmpS_neg]
theorem ltC_iff (a b : CE) : ltC a b = true ↔ cmpR a.1.2.2.1 b.1.2.2.1 < 0 ∨ (a.1.2.2.1 = b.1.2.2.1 ∧ a.2 < b.2) := by
  unfold ltC
  rw [Bool.or_eq_true, Bool.and_eq_true, ltV_iff, decide_eq_true_iff, Bool.not_eq_true', ← Bool.not_eq_true, ltV_iff]
  constructor
  · rintro (h | ⟨h1, h2⟩)
    · exact .inl h
    · rcases cmpR_tri a.1.2.2.1 b.1.2.2.1 with h | h | h
      · exact .inl h
      · exact .inr ⟨h, h2⟩
      · exact absurd ((cmpR_neg _ _).2 h) h1
  · rintro (h | ⟨h1, h2⟩)
    · exact .inl h
    · exact .inr ⟨by rw [h1, cmpR_self]; omega, h2⟩
theorem ltC_not {a b : CE} (h : ltC a b = false) : cmpR b.1.2.2.1 a.1.2.2.1 ≤ 0 := by
  have h1 : ¬ cmpR a.1.2.2.1 b.1.2.2.1 < 0 := fun h2 => by rw [(ltC_iff a b).2 (.inl h2)] at h; cases h
  have h2 : ¬ 0 < cmpR b.1.2.2.1 a.1.2.2.1 := fun h3 => h1 ((cmpR_neg _ _).2 h3)
  omega
theorem ordC : Ord ltC where
  irrefl x := by
    cases h : ltC x x with
    | false => rfl
    | true =>
      rcases (ltC_iff x x).1 h with h | h
      · rw [cmpR_self] at h; omega
      · omega
  trans x y z h1 h2 := by
    rw [ltC_iff] at *
    rcases h1 with h1 | ⟨h1, h1'⟩ <;> rcases h2 with h2 | ⟨h2, h2'⟩
    · exact .inl (cmpR_trans h1 h2)
    · rw [← h2]; exact .inl h1
    · rw [h1]; exact .inl h2
    · exact .inr ⟨h1.trans h2, by omega⟩
  ntrans x y z h1 h2 := by
    cases h : ltC x z with
    | false => rfl
    | true =>
      have n1 : ¬ (ltC x y = true) := by rw [h1]; simp
      have n2 : ¬ (ltC y z = true) := by rw [h2]; simp
      rw [ltC_iff] at n1 n2 h
      rcases cmpR_tri x.1.2.2.1 y.1.2.2.1 with a | a | a
      · exact absurd (.inl a) n1
      · rcases cmpR_tri y.1.2.2.1 z.1.2.2.1 with b | b | b
        · exact absurd (.inl b) n2
        · rcases h with h | ⟨_, h⟩
          · rw [a, b, cmpR_self] at h; omega
          · exact absurd (show x.2 < y.2 ∨ y.2 < z.2 by omega) (fun hh => by
              rcases hh with hh | hh
              · exact n1 (.inr ⟨a, hh⟩)
              · exact n2 (.inr ⟨b, hh⟩))
        · rw [a] at h
          rcases h with h | ⟨h, _⟩
          · have := (cmpR_neg _ _).1 h
            have := (cmpR_neg _ _).2 b
            have c := cmpR_trans h this; rw [cmpR_self] at c; omega
          · rw [h, cmpR_self] at b; omega
      · have a' := (cmpR_neg _ _).2 a
        have yz : cmpR y.1.2.2.1 z.1.2.2.1 < 0 := by
          rcases h with h | ⟨h, _⟩
          · exact cmpR_trans a' h
          · rw [← h]; exact a'
        exact absurd (.inl yz) n2
theorem befC : BeforeIs fC ltC := fun _ _ _ _ _ h i j hi hj => before_cur h i j hi hj

/-- The heap at block g, its list at block own: it holds the bag. -/
def HS (w : World) (g : Nat) (own : Option Nat) (bag : List CE) (p : Int) : Prop :=
  ∃ lv es, HeapAt w g fC lv es p ∧ IsHeap ltC es ∧ es.Perm bag ∧ lv.ownBlock = own
theorem HS.keeps {N : Nat → Prop} {w w' : World} {g : Nat} {own : Option Nat} {bag : List CE} {p : Int} (h : HS w g own bag p) (hk : Keeps N w w') (hg : ¬ N g) (ho : ∀ b, own = some b → ¬ N b) (hr : ∀ e ∈ bag, ∀ q, e.1.2.1 = some q → ¬ N q.block) : HS w' g own bag p := by
  obtain ⟨lv, es, hA, hI, hP, hO⟩ := h
  exact ⟨lv, es, hA.keeps hk hg (fun b hb => ho b (hO ▸ hb)) (fun e he => hr e (hP.subset he)), hI, hP, hO⟩
theorem HS.below {w w' : World} {g : Nat} {own : Option Nat} {bag : List CE} {p : Int} (h : HS w g own bag p) (hb : Below w.heap.size w w') : HS w' g own bag p :=
  h.keeps (N := fun _ => False) (Keeps.of_below hb) (fun h => h) (fun _ _ h => h) (fun _ _ _ _ h => h)
theorem HS.lt {w : World} {g : Nat} {own : Option Nat} {bag : List CE} {p : Int} (h : HS w g own bag p) : g < w.heap.size ∧ ∀ b, own = some b → b < w.heap.size := by
  obtain ⟨lv, es, hA, hI, hP, hO⟩ := h
  exact ⟨hA.lt, fun b hb => (hA.row.lt b (hO.trans hb)).2⟩
theorem HS.rd {w : World} {g : Nat} {own : Option Nat} {bag : List CE} {p : Int} (h : HS w g own bag p) : Rd w g own bag := by
  obtain ⟨lv, es, hA, hI, hP, hO⟩ := h
  rw [← hO]; exact hA.rd.sub (fun e he => hP.symm.subset he)
theorem HS.perm {w : World} {g : Nat} {own : Option Nat} {bag bag' : List CE} {p : Int} (h : HS w g own bag p) (hp : bag.Perm bag') : HS w g own bag' p := by
  obtain ⟨lv, es, hA, hI, hP, hO⟩ := h
  exact ⟨lv, es, hA, hI, hP.trans hp, hO⟩
theorem hs_new (w : World) : HS (w.alloc (.cells #[fC, .slice none 0 0, .int .i64 0] 108)) w.heap.size none [] 0 :=
  ⟨.slice none 0 0, [], ⟨heap_alloc_new w _, World.ownsRow_nil _ _ _ _, by simp [Value.ownBlock], fun e he => by cases he⟩, heap_nil, List.Perm.refl _, rfl⟩

def PushRet (w : World) (g : Nat) (own : Option Nat) (bag : List CE) (p : Int) (v : CV) (e : Ending) (w' : World) : Prop :=
  e = .returned (.tuple #[]) ∧ ∃ own', HS w' g own' ((v, p) :: bag) (p + 1) ∧ Keeps (fun b => b = g ∨ own = some b) w w' ∧ ∀ b, own' = some b → own = some b ∨ w.heap.size ≤ b
theorem hs_push {w : World} {g : Nat} {own : Option Nat} {bag : List CE} {p : Int} (h : HS w g own bag p) (v : CV) (hv : Rd1 w g own v.2) (hlen : bag.length + 1 ≤ 1000000) (hp0 : 0 ≤ p) (hp1 : p ≤ 1000000) :
    Calls Try.prog 79 #[.pointer (some ⟨g, 0, none⟩), cuV v] w (PushRet w g own bag p v) := by
  obtain ⟨lv, es, hA, hI, hP, hO⟩ := h
  refine (push_calls ordC befC hA v (by rw [hO]; exact hv) hI (by rw [hP.length_eq]; exact hlen) hp0 hp1).mono fun e w' ⟨he, lv', es', h1, h2, h3, h4, h5⟩ => ?_
  exact ⟨he, _, ⟨lv', es', h1, h2, h3.trans (hP.cons _), rfl⟩, by rw [← hO]; exact h4, by rw [← hO]; exact h5⟩
def PopRet (w : World) (g : Nat) (own : Option Nat) (bag : List CE) (p : Int) (e : Ending) (w' : World) : Prop :=
  ∃ x bag', e = .returned (.tuple #[cuV x.1, .bool true]) ∧ bag.Perm (x :: bag') ∧ (∀ y ∈ bag', ltC y x = false) ∧ HS w' g own bag' p ∧ Keeps (fun b => b = g ∨ own = some b) w w'
theorem hs_pop {w : World} {g : Nat} {own : Option Nat} {bag : List CE} {p : Int} (h : HS w g own bag p) (h0 : 0 < bag.length) (hlen : bag.length ≤ 1000000) :
    Calls Try.prog 65 #[.pointer (some ⟨g, 0, none⟩)] w (PopRet w g own bag p) := by
  obtain ⟨lv, es, hA, hI, hP, hO⟩ := h
  have hl := hP.length_eq
  refine (pop_calls ordC befC hA hI (by omega) (by omega)).mono fun e w' ⟨he, lv', es', h1, h2, h3, h4, h5⟩ => ?_
  refine ⟨atE es 0, es', he, hP.symm.trans h3, fun y hy => ?_, ⟨lv', es', h1, h2, List.Perm.refl _, h5.trans hO⟩, by rw [← hO]; exact h4⟩
  obtain ⟨j, hj, e⟩ := mem_atE (h3.symm.subset (List.mem_cons_of_mem _ hy))
  rw [← e]; exact heap_min ordC hI j hj
theorem hs_pop_none {w : World} {g : Nat} {own : Option Nat} {p : Int} (h : HS w g own [] p) :
    Calls Try.prog 65 #[.pointer (some ⟨g, 0, none⟩)] w fun e w' => e = .returned (.tuple #[.agg #[.pointer none, .int .i64 0, .slice none 0 0], .bool false]) ∧ Below w.heap.size w w' := by
  obtain ⟨lv, es, hA, hI, hP, hO⟩ := h
  obtain rfl : es = [] := hP.eq_nil
  exact pop_none hA
end Go.Proofs.Ytepkmhcchmladaa.Cu
