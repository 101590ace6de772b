/- A heap told by the bag of its entries; the two orders; the statements' own head. -/
import Derived.Test.YtfpocoaddmgakaaHp2
import Derived.Test.YtfpocoaddmgakaaHp6
namespace Go.Proofs.Ytfpocoaddmgakaa
open Go.RowKit
set_option linter.unusedVariables false
set_option linter.unusedSimpArgs false

abbrev ltL : (Int × Int) → (Int × Int) → Bool := ltE (fun a b => decide (a < b))
abbrev fL : Value := .func (.func 22) #[] #[]
theorem ltL_iff (a b : Int × Int) : ltL a b = true ↔ a.1 < b.1 ∨ (a.1 = b.1 ∧ a.2 < b.2) := by
  unfold ltL ltE; simp; omega
theorem ltL_not (a b : Int × Int) : ltL a b = false ↔ ¬ (a.1 < b.1 ∨ (a.1 = b.1 ∧ a.2 < b.2)) := by rw [← ltL_iff]; simp
theorem ordL : Ord ltL where
  irrefl x := by rw [ltL_not]; omega
  trans x y z h1 h2 := by rw [ltL_iff] at *; omega
  ntrans x y z h1 h2 := by rw [ltL_not] at *; omega
theorem befL : BeforeIs fL ltL := fun _ _ _ _ _ h i j hi hj => before_less h i j hi hj

/-- The heap at block g, its list at block own: it holds the bag. -/
def HS (lt : (Int × Int) → (Int × Int) → Bool) (w : World) (g : Nat) (own : Option Nat) (fv : Value) (bag : List (Int × Int)) (p : Int) : Prop :=
  ∃ lv es, HeapAt w g fv lv es p ∧ IsHeap lt es ∧ es.Perm bag ∧ lv.ownBlock = own
theorem HS.keeps {lt : (Int × Int) → (Int × Int) → Bool} {N : Nat → Prop} {w w' : World} {g : Nat} {own : Option Nat} {fv : Value} {bag : List (Int × Int)} {p : Int} (h : HS lt w g own fv bag p) (hk : Keeps N w w') (hg : ¬ N g) (ho : ∀ b, own = some b → ¬ N b) : HS lt w' g own fv bag p := by
  obtain ⟨lv, es, hA, hI, hP, hO⟩ := h
  exact ⟨lv, es, hA.keeps hk hg (fun b hb => ho b (hO ▸ hb)), hI, hP, hO⟩
theorem HS.lt {lt : (Int × Int) → (Int × Int) → Bool} {w : World} {g : Nat} {own : Option Nat} {fv : Value} {bag : List (Int × Int)} {p : Int} (h : HS lt w g own fv bag p) : g < w.heap.size ∧ ∀ b, own = some b → b < w.heap.size := by
  obtain ⟨lv, es, hA, hI, hP, hO⟩ := h
  exact ⟨hA.lt, fun b hb => (hA.row.lt b (hO.trans hb)).2⟩
theorem hs_new {lt : (Int × Int) → (Int × Int) → Bool} (w : World) (fv : Value) : HS lt (w.alloc (.cells #[fv, .slice none 0 0, .int .i64 0] 57)) w.heap.size none fv [] 0 :=
  ⟨.slice none 0 0, [], ⟨heap_alloc_new w _, World.ownsRow_nil _ _ _ _, by simp [Value.ownBlock]⟩, heap_nil, List.Perm.refl _, rfl⟩

def PushRet (lt : (Int × Int) → (Int × Int) → Bool) (w : World) (g : Nat) (own : Option Nat) (fv : Value) (bag : List (Int × Int)) (p v : Int) (e : Ending) (w' : World) : Prop :=
  e = .returned (.tuple #[]) ∧ ∃ own', HS lt w' g own' fv ((v, p) :: bag) (p + 1) ∧ Keeps (fun b => b = g ∨ own = some b) w w' ∧ ∀ b, own' = some b → own = some b ∨ w.heap.size ≤ b
theorem hs_push {fv : Value} {lt : (Int × Int) → (Int × Int) → Bool} (O : Ord lt) (B : BeforeIs fv lt) {w : World} {g : Nat} {own : Option Nat} {bag : List (Int × Int)} {p : Int} (h : HS lt w g own fv bag p) (v : Int) (hlen : bag.length + 1 ≤ 1000000) (hp0 : 0 ≤ p) (hp1 : p ≤ 1000000) :
    Calls Try.prog 23 #[.pointer (some ⟨g, 0, none⟩), .int .i64 v] w (PushRet lt w g own fv bag p v) := by
  obtain ⟨lv, es, hA, hI, hP, hO⟩ := h
  refine (push_calls O B hA v hI (by rw [hP.length_eq]; exact hlen) hp0 hp1).mono fun e w' ⟨he, lv', es', h1, h2, h3, h4, h5⟩ => ?_
  exact ⟨he, _, ⟨lv', es', h1, h2, h3.trans (hP.cons _), rfl⟩, by rw [← hO]; exact h4, by rw [← hO]; exact h5⟩
def PopRet (lt : (Int × Int) → (Int × Int) → Bool) (w : World) (g : Nat) (own : Option Nat) (fv : Value) (bag : List (Int × Int)) (p : Int) (e : Ending) (w' : World) : Prop :=
  ∃ x bag', e = .returned (.tuple #[.int .i64 x.1, .bool true]) ∧ bag.Perm (x :: bag') ∧ (∀ y ∈ bag', lt y x = false) ∧ HS lt w' g own fv bag' p ∧ Keeps (fun b => b = g ∨ own = some b) w w'
theorem hs_pop {fv : Value} {lt : (Int × Int) → (Int × Int) → Bool} (O : Ord lt) (B : BeforeIs fv lt) {w : World} {g : Nat} {own : Option Nat} {bag : List (Int × Int)} {p : Int} (h : HS lt w g own fv bag p) (h0 : 0 < bag.length) (hlen : bag.length ≤ 1000000) :
    Calls Try.prog 24 #[.pointer (some ⟨g, 0, none⟩)] w (PopRet lt w g own fv bag p) := by
  obtain ⟨lv, es, hA, hI, hP, hO⟩ := h
  have hl := hP.length_eq
  refine (pop_calls O B hA hI (by omega) (by omega)).mono fun e w' ⟨he, lv', es', h1, h2, h3, h4, h5⟩ => ?_
  refine ⟨atE es 0, es', he, hP.symm.trans h3, fun y hy => ?_, ⟨lv', es', h1, h2, List.Perm.refl _, h5.trans hO⟩, by rw [← hO]; exact h4⟩
  obtain ⟨j, hj, e⟩ := mem_atE (h3.symm.subset (List.mem_cons_of_mem _ hy))
  rw [← e]; exact heap_min O hI j hj
theorem hs_pop_none {fv : Value} {lt : (Int × Int) → (Int × Int) → Bool} {w : World} {g : Nat} {own : Option Nat} {p : Int} (h : HS lt w g own fv [] p) :
    Calls Try.prog 24 #[.pointer (some ⟨g, 0, none⟩)] w fun e w' => e = .returned (.tuple #[.int .i64 0, .bool false]) ∧ w = w' := by
  obtain ⟨lv, es, hA, hI, hP, hO⟩ := h
  obtain rfl : es = [] := hP.eq_nil
  exact pop_none hA
/-- A heap of the call's own, all whose blocks are new since B. -/
def HB (B : Nat) (lt : (Int × Int) → (Int × Int) → Bool) (w : World) (g : Nat) (fv : Value) (bag : List (Int × Int)) (p : Int) : Prop :=
  B ≤ g ∧ B ≤ w.heap.size ∧ ∃ own, HS lt w g own fv bag p ∧ ∀ b, own = some b → B ≤ b
theorem hb_new {lt : (Int × Int) → (Int × Int) → Bool} {B : Nat} {w : World} (hB : B ≤ w.heap.size) (fv : Value) : HB B lt (w.alloc (.cells #[fv, .slice none 0 0, .int .i64 0] 57)) w.heap.size fv [] 0 :=
  ⟨hB, by simp; omega, none, hs_new w fv, fun b hb => by cases hb⟩
theorem hb_push {B : Nat} {fv : Value} {lt : (Int × Int) → (Int × Int) → Bool} (O : Ord lt) (Bf : BeforeIs fv lt) {w : World} {g : Nat} {bag : List (Int × Int)} {p : Int} (h : HB B lt w g fv bag p) (v : Int) (hlen : bag.length + 1 ≤ 1000000) (hp0 : 0 ≤ p) (hp1 : p ≤ 1000000) :
    Calls Try.prog 23 #[.pointer (some ⟨g, 0, none⟩), .int .i64 v] w fun e w' => e = .returned (.tuple #[]) ∧ HB B lt w' g fv ((v, p) :: bag) (p + 1) ∧ Below B w w' := by
  obtain ⟨hg, hB, own, hS, ho⟩ := h
  refine (hs_push O Bf hS v hlen hp0 hp1).mono fun e w' ⟨he, own', h1, h2, h3⟩ => ⟨he, ⟨hg, Nat.le_trans hB h2.size, own', h1, fun b hb => ?_⟩, h2.below hB (fun k hk => ?_)⟩
  · rcases h3 b hb with h | h
    · exact ho b h
    · omega
  · rcases hk with h | h
    · omega
    · exact ho k h
def PopB (B : Nat) (lt : (Int × Int) → (Int × Int) → Bool) (w : World) (g : Nat) (fv : Value) (bag : List (Int × Int)) (p : Int) (e : Ending) (w' : World) : Prop :=
  ∃ x bag', e = .returned (.tuple #[.int .i64 x.1, .bool true]) ∧ bag.Perm (x :: bag') ∧ (∀ y ∈ bag', lt y x = false) ∧ HB B lt w' g fv bag' p ∧ Below B w w'
theorem hb_pop {B : Nat} {fv : Value} {lt : (Int × Int) → (Int × Int) → Bool} (O : Ord lt) (Bf : BeforeIs fv lt) {w : World} {g : Nat} {bag : List (Int × Int)} {p : Int} (h : HB B lt w g fv bag p) (h0 : 0 < bag.length) (hlen : bag.length ≤ 1000000) :
    Calls Try.prog 24 #[.pointer (some ⟨g, 0, none⟩)] w (PopB B lt w g fv bag p) := by
  obtain ⟨hg, hB, own, hS, ho⟩ := h
  refine (hs_pop O Bf hS h0 hlen).mono fun e w' ⟨x, bag', he, h1, h2, h3, h4⟩ => ⟨x, bag', he, h1, h2, ⟨hg, Nat.le_trans hB h4.size, own, h3, ho⟩, h4.below hB (fun k hk => ?_)⟩
  rcases hk with h | h
  · omega
  · exact ho k h

def TrueRet (w : World) (e : Ending) (w' : World) : Prop := e = .returned (.bool true) ∧ Below w.heap.size w w'

end Go.Proofs.Ytfpocoaddmgakaa
