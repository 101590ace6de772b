/- A heap told by the bag of its entries; the two orders; the statements' own head. -/
import Derived.Test.YtepkmhcchmladaaHp2
import Derived.Test.YtepkmhcchmladaaHp6
namespace Go.Proofs.Ytepkmhcchmladaa
open Go.RowKit
set_option linter.unusedVariables false
set_option linter.unusedSimpArgs false

abbrev ltL : (Int × Int) → (Int × Int) → Bool := ltE (fun a b => decide (a < b))
abbrev ltM : (Int × Int) → (Int × Int) → Bool := ltE (fun a b => decide (b < a))
abbrev fL : Value := .func (.func 31) #[] #[]
abbrev fM : Value := .func (.func 0) #[] #[]
theorem ltL_iff (a b : Int × Int) : ltL a b = true ↔ a.1 < b.1 ∨ (a.1 = b.1 ∧ a.2 < b.2) := by
  unfold ltL ltE; simp; omega
theorem ltM_iff (a b : Int × Int) : ltM a b = true ↔ b.1 < a.1 ∨ (a.1 = b.1 ∧ a.2 < b.2) := by
  unfold ltM ltE; simp; omega
theorem ltL_not (a b : Int × Int) : ltL a b = false ↔ ¬ (a.1 < b.1 ∨ (a.1 = b.1 ∧ a.2 < b.2)) := by rw [← ltL_iff]; simp
theorem ltM_not (a b : Int × Int) : ltM a b = false ↔ ¬ (b.1 < a.1 ∨ (a.1 = b.1 ∧ a.2 < b.2)) := by rw [← ltM_iff]; simp
theorem ordL : Ord ltL where
  irrefl x := by rw [ltL_not]; omega
  trans x y z h1 h2 := by rw [ltL_iff] at *; omega
  ntrans x y z h1 h2 := by rw [ltL_not] at *; omega
theorem ordM : Ord ltM where
  irrefl x := by rw [ltM_not]; omega
  trans x y z h1 h2 := by rw [ltM_iff] at *; omega
  ntrans x y z h1 h2 := by rw [ltM_not] at *; omega
theorem befL : BeforeIs fL ltL := fun _ _ _ _ _ h i j hi hj => before_less h i j hi hj

/-- The heap at block g, its list at block own: it holds the bag. -/
def HS (lt : (Int × Int) → (Int × Int) → Bool) (w : World) (g : Nat) (own : Option Nat) (fv : Value) (bag : List (Int × Int)) (p : Int) : Prop :=
  ∃ lv es, HeapAt w g fv lv es p ∧ IsHeap lt es ∧ es.Perm bag ∧ lv.ownBlock = own
theorem HS.keeps {lt : (Int × Int) → (Int × Int) → Bool} {N : Nat → Prop} {w w' : World} {g : Nat} {own : Option Nat} {fv : Value} {bag : List (Int × Int)} {p : Int} (h : HS lt w g own fv bag p) (hk : Keeps N w w') (hg : ¬ N g) (ho : ∀ b, own = some b → ¬ N b) : HS lt w' g own fv bag p := by
  obtain ⟨lv, es, hA, hI, hP, hO⟩ := h
  exact ⟨lv, es, hA.keeps hk hg (fun b hb => ho b (hO ▸ hb)), hI, hP, hO⟩
theorem HS.lt {lt : (Int × Int) → (Int × Int) → Bool} {w : World} {g : Nat} {own : Option Nat} {fv : Value} {bag : List (Int × Int)} {p : Int} (h : HS lt w g own fv bag p) : g < w.heap.size ∧ ∀ b, own = some b → b < w.heap.size := by
  obtain ⟨lv, es, hA, hI, hP, hO⟩ := h
  exact ⟨hA.lt, fun b hb => (hA.row.lt b (hO.trans hb)).2⟩
theorem hs_new {lt : (Int × Int) → (Int × Int) → Bool} (w : World) (fv : Value) : HS lt (w.alloc (.cells #[fv, .slice none 0 0, .int .i64 0] 83)) w.heap.size none fv [] 0 :=
  ⟨.slice none 0 0, [], ⟨heap_alloc_new w _, World.ownsRow_nil _ _ _ _, by simp [Value.ownBlock]⟩, heap_nil, List.Perm.refl _, rfl⟩

def PushRet (lt : (Int × Int) → (Int × Int) → Bool) (w : World) (g : Nat) (own : Option Nat) (fv : Value) (bag : List (Int × Int)) (p v : Int) (e : Ending) (w' : World) : Prop :=
  e = .returned (.tuple #[]) ∧ ∃ own', HS lt w' g own' fv ((v, p) :: bag) (p + 1) ∧ Keeps (fun b => b = g ∨ own = some b) w w' ∧ ∀ b, own' = some b → own = some b ∨ w.heap.size ≤ b
theorem hs_push {fv : Value} {lt : (Int × Int) → (Int × Int) → Bool} (O : Ord lt) (B : BeforeIs fv lt) {w : World} {g : Nat} {own : Option Nat} {bag : List (Int × Int)} {p : Int} (h : HS lt w g own fv bag p) (v : Int) (hlen : bag.length + 1 ≤ 1000000) (hp0 : 0 ≤ p) (hp1 : p ≤ 1000000) :
    Calls Try.prog 32 #[.pointer (some ⟨g, 0, none⟩), .int .i64 v] w (PushRet lt w g own fv bag p v) := by
  obtain ⟨lv, es, hA, hI, hP, hO⟩ := h
  refine (push_calls O B hA v hI (by rw [hP.length_eq]; exact hlen) hp0 hp1).mono fun e w' ⟨he, lv', es', h1, h2, h3, h4, h5⟩ => ?_
  exact ⟨he, _, ⟨lv', es', h1, h2, h3.trans (hP.cons _), rfl⟩, by rw [← hO]; exact h4, by rw [← hO]; exact h5⟩
def PopRet (lt : (Int × Int) → (Int × Int) → Bool) (w : World) (g : Nat) (own : Option Nat) (fv : Value) (bag : List (Int × Int)) (p : Int) (e : Ending) (w' : World) : Prop :=
  ∃ x bag', e = .returned (.tuple #[.int .i64 x.1, .bool true]) ∧ bag.Perm (x :: bag') ∧ (∀ y ∈ bag', lt y x = false) ∧ HS lt w' g own fv bag' p ∧ Keeps (fun b => b = g ∨ own = some b) w w'
theorem hs_pop {fv : Value} {lt : (Int × Int) → (Int × Int) → Bool} (O : Ord lt) (B : BeforeIs fv lt) {w : World} {g : Nat} {own : Option Nat} {bag : List (Int × Int)} {p : Int} (h : HS lt w g own fv bag p) (h0 : 0 < bag.length) (hlen : bag.length ≤ 1000000) :
    Calls Try.prog 33 #[.pointer (some ⟨g, 0, none⟩)] w (PopRet lt w g own fv bag p) := by
  obtain ⟨lv, es, hA, hI, hP, hO⟩ := h
  have hl := hP.length_eq
  refine (pop_calls O B hA hI (by omega) (by omega)).mono fun e w' ⟨he, lv', es', h1, h2, h3, h4, h5⟩ => ?_
  refine ⟨atE es 0, es', he, hP.symm.trans h3, fun y hy => ?_, ⟨lv', es', h1, h2, List.Perm.refl _, h5.trans hO⟩, by rw [← hO]; exact h4⟩
  obtain ⟨j, hj, e⟩ := mem_atE (h3.symm.subset (List.mem_cons_of_mem _ hy))
  rw [← e]; exact heap_min O hI j hj
theorem hs_pop_none {fv : Value} {lt : (Int × Int) → (Int × Int) → Bool} {w : World} {g : Nat} {own : Option Nat} {p : Int} (h : HS lt w g own fv [] p) :
    Calls Try.prog 33 #[.pointer (some ⟨g, 0, none⟩)] w fun e w' => e = .returned (.tuple #[.int .i64 0, .bool false]) ∧ w = w' := by
  obtain ⟨lv, es, hA, hI, hP, hO⟩ := h
  obtain rfl : es = [] := hP.eq_nil
  exact pop_none hA
theorem hs_len {fv : Value} {lt : (Int × Int) → (Int × Int) → Bool} {w : World} {g : Nat} {own : Option Nat} {bag : List (Int × Int)} {p : Int} (h : HS lt w g own fv bag p) (n : Nat) (hn : bag.length = n) :
    Calls Try.prog 34 #[.pointer (some ⟨g, 0, none⟩)] w fun e w' => e = .returned (.int .i64 n) ∧ w = w' := by
  obtain ⟨lv, es, hA, hI, hP, hO⟩ := h
  rw [← hn, ← hP.length_eq]
  exact len_calls hA

/-- A heap of the call's own, all whose blocks are new since B. -/
def HB (B : Nat) (lt : (Int × Int) → (Int × Int) → Bool) (w : World) (g : Nat) (fv : Value) (bag : List (Int × Int)) (p : Int) : Prop :=
  B ≤ g ∧ B ≤ w.heap.size ∧ ∃ own, HS lt w g own fv bag p ∧ ∀ b, own = some b → B ≤ b
theorem hb_new {lt : (Int × Int) → (Int × Int) → Bool} {B : Nat} {w : World} (hB : B ≤ w.heap.size) (fv : Value) : HB B lt (w.alloc (.cells #[fv, .slice none 0 0, .int .i64 0] 83)) w.heap.size fv [] 0 :=
  ⟨hB, by simp; omega, none, hs_new w fv, fun b hb => by cases hb⟩
theorem hb_push {B : Nat} {fv : Value} {lt : (Int × Int) → (Int × Int) → Bool} (O : Ord lt) (Bf : BeforeIs fv lt) {w : World} {g : Nat} {bag : List (Int × Int)} {p : Int} (h : HB B lt w g fv bag p) (v : Int) (hlen : bag.length + 1 ≤ 1000000) (hp0 : 0 ≤ p) (hp1 : p ≤ 1000000) :
    Calls Try.prog 32 #[.pointer (some ⟨g, 0, none⟩), .int .i64 v] w fun e w' => e = .returned (.tuple #[]) ∧ HB B lt w' g fv ((v, p) :: bag) (p + 1) ∧ Below B w w' := by
  obtain ⟨hg, hB, own, hS, ho⟩ := h
  refine (hs_push O Bf hS v hlen hp0 hp1).mono fun e w' ⟨he, own', h1, h2, h3⟩ => ⟨he, ⟨hg, Nat.le_trans hB h2.size, own', h1, fun b hb => ?_⟩, h2.below hB (fun k hk => ?_)⟩
  · rcases h3 b hb with h | h
    · exact ho b h
    · omega
  · rcases hk with h | h
    · omega
    · exact ho k h
def PopB (B : Nat) (lt : (Int × Int) → (Int × Int) → Bool) (w : World) (g : Nat) (fv : Value) (bag : List (Int × Int)) (p : Int) (e : Ending) (w' : World) : Prop :=
  ∃ x bag', e = .returned (.tuple #[.int .i64 x.1, .bool true]) ∧ bag.Perm (x :: bag') ∧ (∀ y ∈ bag', lt y x = false) ∧ HB B lt w' g fv bag' p ∧ Below B w w'
theorem hb_pop {B : Nat} {fv : Value} {lt : (Int × Int) → (Int × Int) → Bool} (O : Ord lt) (Bf : BeforeIs fv lt) {w : World} {g : Nat} {bag : List (Int × Int)} {p : Int} (h : HB B lt w g fv bag p) (h0 : 0 < bag.length) (hlen : bag.length ≤ 1000000) :
    Calls Try.prog 33 #[.pointer (some ⟨g, 0, none⟩)] w (PopB B lt w g fv bag p) := by
  obtain ⟨hg, hB, own, hS, ho⟩ := h
  refine (hs_pop O Bf hS h0 hlen).mono fun e w' ⟨x, bag', he, h1, h2, h3, h4⟩ => ⟨x, bag', he, h1, h2, ⟨hg, Nat.le_trans hB h4.size, own, h3, ho⟩, h4.below hB (fun k hk => ?_)⟩
  rcases hk with h | h
  · omega
  · exact ho k h

def TrueRet (w : World) (e : Ending) (w' : World) : Prop := e = .returned (.bool true) ∧ Below w.heap.size w w'

set_option maxRecDepth 100000 in
set_option maxHeartbeats 1000000 in
theorem head6_calls (w : World) : Calls Try.prog 8 #[] w (TrueRet w) := by
  obtain ⟨B, hB⟩ : ∃ B, w.heap.size = B := ⟨_, rfl⟩
  have HB0 := Lib.hid hB
  have n0 := Lib.hid (hb_new (lt := ltL) (B := B) (w := w) (by omega) fL)
  clear hB
  go_enter Try.func8, Try.ntmps8
  go_wp2_with (first | (go_at_call 30; refine (newheap_calls 31 _).mono ?_; rintro e w0 ⟨rfl, rfl⟩))
  have b0 : Hid (Below B w (w.alloc (.cells #[fL, .slice none 0 0, .int .i64 0] 83))) := Lib.hid ((Below.refl _ _).alloc (by rw [HB0.out]; exact Nat.le_refl _) _)
  generalize World.alloc _ _ = w1 at *
  generalize w.heap.size = g at n0 ⊢
  refine (hb_push ordL befL n0.out 3 (by simp) (by omega) (by omega)).mono ?_
  rintro e w2 ⟨rfl, hh2, hb2⟩
  have n2 := Lib.hid hh2
  have b2 := Lib.hid (b0.out.trans hb2)
  clear hh2 hb2 n0 b0
  go_wp2_with fail
  refine (hb_push ordL befL n2.out 1 (by simp) (by omega) (by omega)).mono ?_
  rintro e w3 ⟨rfl, hh3, hb3⟩
  have n3 := Lib.hid hh3
  have b3 := Lib.hid (b2.out.trans hb3)
  clear hh3 hb3 n2 b2
  go_wp2_with fail
  refine (hb_push ordL befL n3.out 2 (by simp) (by omega) (by omega)).mono ?_
  rintro e w4 ⟨rfl, hh4, hb4⟩
  have n4 := Lib.hid hh4
  have b4 := Lib.hid (b3.out.trans hb4)
  clear hh4 hb4 n3 b3
  go_wp2_with fail
  refine (hb_pop ordL befL n4.out (by simp) (by simp)).mono ?_
  rintro e w5 ⟨x, bag', rfl, hp, hl, hh5, hb5⟩
  have n5 := Lib.hid hh5
  have b5 := Lib.hid (b4.out.trans hb5)
  have hx : x.1 = 1 := by
    have hm : x ∈ [((2 : Int), (0 : Int) + 1 + 1), (1, 0 + 1), (3, 0)] := hp.symm.subset (by simp)
    have hy : ((1 : Int), (0 : Int) + 1) ∈ x :: bag' := hp.subset (by simp)
    simp at hm
    rcases List.mem_cons.1 hy with h | h
    · rw [← h]
    · have := hl _ h
      rw [ltL_not] at this
      rcases hm with rfl | rfl | rfl <;> simp at this <;> omega
  have hlen : bag'.length = 2 := by have := hp.length_eq; simp at this; omega
  obtain ⟨_, _, own, hS, _⟩ := hh5
  have lc := hs_len hS 2 hlen
  clear hp hl hb5 n4 b4 hS
  rw [hx]
  go_wp2_with (first | (go_at_call 34; refine lc.mono ?_; rintro e w6 ⟨rfl, rfl⟩))
  go_ret
  exact ⟨rfl, by rw [HB0.out]; exact b5.out⟩
end Go.Proofs.Ytepkmhcchmladaa
