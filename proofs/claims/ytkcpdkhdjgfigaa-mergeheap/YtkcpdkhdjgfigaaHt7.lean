/- A heap of Things told by the bag of its entries. Written by mkht.py. -/
import Derived.Test.YtkcpdkhdjgfigaaHt6
namespace Go.Proofs.Ytkcpdkhdjgfigaa.Th
open Go.RowKit
set_option linter.unusedVariables false
set_option linter.unusedSimpArgs false

abbrev fT : Value := .func (.func 30) #[] #[]
theorem ltT_iff (a b : (Int × Int) × Int) : ltT a b = true ↔ a.1.1 < b.1.1 ∨ (a.1.1 = b.1.1 ∧ a.2 < b.2) := by
  unfold ltT; simp; omega
theorem ltT_not (a b : (Int × Int) × Int) : ltT a b = false ↔ ¬ (a.1.1 < b.1.1 ∨ (a.1.1 = b.1.1 ∧ a.2 < b.2)) := by rw [← ltT_iff]; simp
theorem ordT : Ord ltT where
  irrefl x := by rw [ltT_not]; omega
  trans x y z h1 h2 := by rw [ltT_iff] at *; omega
  ntrans x y z h1 h2 := by rw [ltT_not] at *; omega
theorem befT : BeforeIs fT ltT := fun _ _ _ _ _ h i j hi hj => before_thing h i j hi hj

/-- The heap at block g, its list at block own: it holds the bag. -/
def HS (lt : ((Int × Int) × Int) → ((Int × Int) × Int) → Bool) (w : World) (g : Nat) (own : Option Nat) (fv : Value) (bag : List ((Int × Int) × Int)) (p : Int) : Prop :=
  ∃ lv es, HeapAt w g fv lv es p ∧ IsHeap lt es ∧ es.Perm bag ∧ lv.ownBlock = own
theorem HS.keeps {lt : ((Int × Int) × Int) → ((Int × Int) × Int) → Bool} {N : Nat → Prop} {w w' : World} {g : Nat} {own : Option Nat} {fv : Value} {bag : List ((Int × Int) × Int)} {p : Int} (h : HS lt w g own fv bag p) (hk : Keeps N w w') (hg : ¬ N g) (ho : ∀ b, own = some b → ¬ N b) : HS lt w' g own fv bag p := by
  obtain ⟨lv, es, hA, hI, hP, hO⟩ := h
  exact ⟨lv, es, hA.keeps hk hg (fun b hb => ho b (hO ▸ hb)), hI, hP, hO⟩
theorem HS.lt {lt : ((Int × Int) × Int) → ((Int × Int) × Int) → Bool} {w : World} {g : Nat} {own : Option Nat} {fv : Value} {bag : List ((Int × Int) × Int)} {p : Int} (h : HS lt w g own fv bag p) : g < w.heap.size ∧ ∀ b, own = some b → b < w.heap.size := by
  obtain ⟨lv, es, hA, hI, hP, hO⟩ := h
  exact ⟨hA.lt, fun b hb => (hA.row.lt b (hO.trans hb)).2⟩
theorem hs_new {lt : ((Int × Int) × Int) → ((Int × Int) × Int) → Bool} (w : World) (fv : Value) : HS lt (w.alloc (.cells #[fv, .slice none 0 0, .int .i64 0] 85)) w.heap.size none fv [] 0 :=
  ⟨.slice none 0 0, [], ⟨heap_alloc_new w _, World.ownsRow_nil _ _ _ _, by simp [Value.ownBlock]⟩, heap_nil, List.Perm.refl _, rfl⟩

def PushRet (lt : ((Int × Int) × Int) → ((Int × Int) × Int) → Bool) (w : World) (g : Nat) (own : Option Nat) (fv : Value) (bag : List ((Int × Int) × Int)) (p : Int) (v : Int × Int) (e : Ending) (w' : World) : Prop :=
  e = .returned (.tuple #[]) ∧ ∃ own', HS lt w' g own' fv ((v, p) :: bag) (p + 1) ∧ Keeps (fun b => b = g ∨ own = some b) w w' ∧ ∀ b, own' = some b → own = some b ∨ w.heap.size ≤ b
theorem hs_push {fv : Value} {lt : ((Int × Int) × Int) → ((Int × Int) × Int) → Bool} (O : Ord lt) (B : BeforeIs fv lt) {w : World} {g : Nat} {own : Option Nat} {bag : List ((Int × Int) × Int)} {p : Int} (h : HS lt w g own fv bag p) (v : Int × Int) (hlen : bag.length + 1 ≤ 1000000) (hp0 : 0 ≤ p) (hp1 : p ≤ 1000000) :
    Calls Try.prog 31 #[.pointer (some ⟨g, 0, none⟩), .agg #[.int .i64 v.1, .int .i64 v.2]] w (PushRet lt w g own fv bag p v) := by
  obtain ⟨lv, es, hA, hI, hP, hO⟩ := h
  refine (push_calls O B hA v hI (by rw [hP.length_eq]; exact hlen) hp0 hp1).mono fun e w' ⟨he, lv', es', h1, h2, h3, h4, h5⟩ => ?_
  exact ⟨he, _, ⟨lv', es', h1, h2, h3.trans (hP.cons _), rfl⟩, by rw [← hO]; exact h4, by rw [← hO]; exact h5⟩
def PopRet (lt : ((Int × Int) × Int) → ((Int × Int) × Int) → Bool) (w : World) (g : Nat) (own : Option Nat) (fv : Value) (bag : List ((Int × Int) × Int)) (p : Int) (e : Ending) (w' : World) : Prop :=
  ∃ x bag', e = .returned (.tuple #[.agg #[.int .i64 x.1.1, .int .i64 x.1.2], .bool true]) ∧ bag.Perm (x :: bag') ∧ (∀ y ∈ bag', lt y x = false) ∧ HS lt w' g own fv bag' p ∧ Keeps (fun b => b = g ∨ own = some b) w w'
theorem hs_pop {fv : Value} {lt : ((Int × Int) × Int) → ((Int × Int) × Int) → Bool} (O : Ord lt) (B : BeforeIs fv lt) {w : World} {g : Nat} {own : Option Nat} {bag : List ((Int × Int) × Int)} {p : Int} (h : HS lt w g own fv bag p) (h0 : 0 < bag.length) (hlen : bag.length ≤ 1000000) :
    Calls Try.prog 32 #[.pointer (some ⟨g, 0, none⟩)] w (PopRet lt w g own fv bag p) := by
  obtain ⟨lv, es, hA, hI, hP, hO⟩ := h
  have hl := hP.length_eq
  refine (pop_calls O B hA hI (by omega) (by omega)).mono fun e w' ⟨he, lv', es', h1, h2, h3, h4, h5⟩ => ?_
  refine ⟨atE es 0, es', he, hP.symm.trans h3, fun y hy => ?_, ⟨lv', es', h1, h2, List.Perm.refl _, h5.trans hO⟩, by rw [← hO]; exact h4⟩
  obtain ⟨j, hj, e⟩ := mem_atE (h3.symm.subset (List.mem_cons_of_mem _ hy))
  rw [← e]; exact heap_min O hI j hj
theorem hs_pop_none {fv : Value} {lt : ((Int × Int) × Int) → ((Int × Int) × Int) → Bool} {w : World} {g : Nat} {own : Option Nat} {p : Int} (h : HS lt w g own fv [] p) :
    Calls Try.prog 32 #[.pointer (some ⟨g, 0, none⟩)] w fun e w' => e = .returned (.tuple #[.agg #[.int .i64 0, .int .i64 0], .bool false]) ∧ Below w.heap.size w w' := by
  obtain ⟨lv, es, hA, hI, hP, hO⟩ := h
  obtain rfl : es = [] := hP.eq_nil
  exact pop_none hA
theorem hs_len {fv : Value} {lt : ((Int × Int) × Int) → ((Int × Int) × Int) → Bool} {w : World} {g : Nat} {own : Option Nat} {bag : List ((Int × Int) × Int)} {p : Int} (h : HS lt w g own fv bag p) (n : Nat) (hn : bag.length = n) :
    Calls Try.prog 33 #[.pointer (some ⟨g, 0, none⟩)] w fun e w' => e = .returned (.int .i64 n) ∧ w = w' := by
  obtain ⟨lv, es, hA, hI, hP, hO⟩ := h
  rw [← hn, ← hP.length_eq]
  exact len_calls hA

end Go.Proofs.Ytkcpdkhdjgfigaa.Th
