/- A heap of cursors in memory; its order. Written by mkhc.py. -/
import Derived.Test.YtepkmhcchmladaaSg1
import Derived.Test.YtepkmhcchmladaaRv
import Derived.Test.YtepkmhcchmladaaHpMath
namespace Go.Proofs.Ytepkmhcchmladaa.Cu
open Go.RowKit
set_option linter.unusedVariables false
set_option linter.unusedSimpArgs false

/-- A cursor: its relation, its index, its row; an entry: a cursor and its number. -/
abbrev CV := (Option Addr × Int) × RV
abbrev CE := CV × Int
/-- The cells of a list of entries. -/
def flat (es : List CE) : List Value := es.flatMap fun e => [.pointer e.1.1.1, .int .i64 e.1.1.2, .slice e.1.2.1 e.1.2.2.1.length e.1.2.2.2, .int .i64 e.2]
theorem flat_nil : flat [] = [] := rfl
theorem flat_cons (x : CE) (es : List CE) : flat (x :: es) = .pointer x.1.1.1 :: .int .i64 x.1.1.2 :: .slice x.1.2.1 x.1.2.2.1.length x.1.2.2.2 :: .int .i64 x.2 :: flat es := by simp [flat]
theorem flat_len (es : List CE) : (flat es).length = es.length * 4 := by
  induction es with
  | nil => rfl
  | cons x es ih => rw [flat_cons]; simp [ih]; omega
theorem flat_append (l r : List CE) : flat (l ++ r) = flat l ++ flat r := by simp [flat]
theorem flat_at {es : List CE} {i : Nat} (h : i < es.length) : (flat es)[i * 4]? = some (.pointer (atE es i).1.1.1) ∧ (flat es)[i * 4 + 1]? = some (.int .i64 (atE es i).1.1.2) ∧ (flat es)[i * 4 + 2]? = some (.slice (atE es i).1.2.1 (atE es i).1.2.2.1.length (atE es i).1.2.2.2) ∧ (flat es)[i * 4 + 3]? = some (.int .i64 (atE es i).2) := by
  induction es generalizing i with
  | nil => simp at h
  | cons x es ih =>
    rw [flat_cons]
    cases i with
    | zero => simp [atE]
    | succ i =>
      have := ih (i := i) (by simpa using h)
      rw [show (i + 1) * 4 = i * 4 + 4 by omega]
      simpa [atE] using this
theorem flat_set {es : List CE} {i : Nat} (x : CE) (h : i < es.length) : (((((flat es).set (i * 4) (.pointer x.1.1.1)).set (i * 4 + 1) (.int .i64 x.1.1.2)).set (i * 4 + 2) (.slice x.1.2.1 x.1.2.2.1.length x.1.2.2.2)).set (i * 4 + 3) (.int .i64 x.2)) = flat (es.set i x) := by
  induction es generalizing i with
  | nil => simp at h
  | cons y es ih =>
    rw [flat_cons]
    cases i with
    | zero => simp [flat_cons]
    | succ i =>
      have := ih (i := i) (by simpa using h)
      rw [show (i + 1) * 4 = i * 4 + 1 + 1 + 1 + 1 by omega]
      simp only [List.set_cons_succ, flat_cons, this]

/-- The row of a cursor can be read, and lies in no block of the heap. -/
def Rd1 (w : World) (g : Nat) (own : Option Nat) (x : RV) : Prop := Row w x.1 x.2.1 ∧ x.2.1.length ≤ x.2.2 ∧ x.2.1.length ≤ 1000000 ∧ ∀ q, x.1 = some q → q.block < w.heap.size ∧ q.block ≠ g ∧ own ≠ some q.block
def Rd (w : World) (g : Nat) (own : Option Nat) (es : List CE) : Prop := ∀ e ∈ es, Rd1 w g own e.1.2
theorem Rd1.keeps {N : Nat → Prop} {w w' : World} {g : Nat} {own : Option Nat} {x : RV} (h : Rd1 w g own x) (hk : Keeps N w w') (hn : ∀ q, x.1 = some q → ¬ N q.block) : Rd1 w' g own x :=
  ⟨h.1.keeps hk hn, h.2.1, h.2.2.1, fun q hq => ⟨Nat.lt_of_lt_of_le (h.2.2.2 q hq).1 hk.size, (h.2.2.2 q hq).2⟩⟩
theorem Rd.keeps {N : Nat → Prop} {w w' : World} {g : Nat} {own : Option Nat} {es : List CE} (h : Rd w g own es) (hk : Keeps N w w') (hn : ∀ e ∈ es, ∀ q, e.1.2.1 = some q → ¬ N q.block) : Rd w' g own es :=
  fun e he => (h e he).keeps hk (hn e he)
theorem Rd.own {w w' : World} {g : Nat} {own : Option Nat} {es : List CE} (h : Rd w g own es) (hk : Keeps (fun b => b = g ∨ own = some b) w w') : Rd w' g own es :=
  h.keeps hk (fun e he q hq hN => by
    have := (h e he).2.2.2 q hq
    rcases hN with e | e
    · exact this.2.1 e
    · exact this.2.2 e)
theorem Rd.sub {w : World} {g : Nat} {own : Option Nat} {es es' : List CE} (h : Rd w g own es) (hs : ∀ e ∈ es', e ∈ es) : Rd w g own es' := fun e he => h e (hs e he)

/-- The heap at block g: its order fv, its list lv with the entries es, p pushed so far. -/
structure HeapAt (w : World) (g : Nat) (fv lv : Value) (es : List CE) (p : Int) : Prop where
  blk : w.heap[g]? = some (.cells #[fv, lv, .int .i64 p] 108 (0, 0))
  row : w.ownsRow 0 111 4 lv es.length (flat es)
  ne : lv.ownBlock ≠ some g
  rd : Rd w g lv.ownBlock es
theorem HeapAt.lt {w : World} {g : Nat} {fv lv : Value} {es : List CE} {p : Int} (h : HeapAt w g fv lv es p) : g < w.heap.size := (Array.getElem?_eq_some_iff.1 h.blk).1
theorem HeapAt.keeps {N : Nat → Prop} {w w' : World} {g : Nat} {fv lv : Value} {es : List CE} {p : Int} (h : HeapAt w g fv lv es p) (hk : Keeps N w w') (hg : ¬ N g) (hl : ∀ b, lv.ownBlock = some b → ¬ N b) (hr : ∀ e ∈ es, ∀ q, e.1.2.1 = some q → ¬ N q.block) : HeapAt w' g fv lv es p :=
  ⟨(hk.block g h.lt hg).trans h.blk, owns_keeps h.row hk hl, h.ne, h.rd.keeps hk hr⟩
theorem HeapAt.below {w w' : World} {g : Nat} {fv lv : Value} {es : List CE} {p : Int} (h : HeapAt w g fv lv es p) (hb : Below w.heap.size w w') : HeapAt w' g fv lv es p :=
  h.keeps (N := fun _ => False) (Keeps.of_below hb) (fun h => h) (fun _ _ h => h) (fun _ _ _ _ h => h)
theorem HeapAt.cell {w : World} {g : Nat} {fv lv : Value} {es : List CE} {p : Int} (h : HeapAt w g fv lv es p) :
    w.cell? ⟨g, 0, none⟩ = some fv ∧ w.cell? ⟨g, 1, none⟩ = some lv ∧ w.cell? ⟨g, 2, none⟩ = some (.int .i64 p) := by
  refine ⟨?_, ?_, ?_⟩ <;> (rw [cell_of_row w g _ _ 108 (0, 0) h.blk]; rfl)
theorem HeapAt.form {w : World} {g : Nat} {fv lv : Value} {es : List CE} {p : Int} (h : HeapAt w g fv lv es p) : ∃ a cap, lv = .slice a es.length cap := by
  rcases h.row.2 with ⟨rfl, h0⟩ | ⟨r, cap, cur, rfl, _⟩
  · rw [h0]; exact ⟨_, _, rfl⟩
  · exact ⟨_, _, rfl⟩
theorem HeapAt.form' {w : World} {g : Nat} {fv lv : Value} {es : List CE} {p : Int} (h : HeapAt w g fv lv es p) (h0 : 0 < es.length) : ∃ r cap, lv = .slice (some ⟨r, 0, none⟩) es.length cap ∧ es.length ≤ cap ∧ cap ≤ maxLen ∧ r ≠ g ∧ r < w.heap.size := by
  rcases h.row.2 with ⟨rfl, h1⟩ | ⟨r, cap, cur, rfl, _, hh, h2, h3, _⟩
  · omega
  · exact ⟨_, _, rfl, h2, h3, fun e => h.ne (by simp [Value.ownBlock, e]), (Array.getElem?_eq_some_iff.1 hh).1⟩

theorem newheap_calls (F : Nat) (w : World) : Calls Try.prog 62 #[.func (.func F) #[] #[]] w fun e w' => e = .returned (.pointer (some ⟨w.heap.size, 0, none⟩)) ∧ w' = w.alloc (.cells #[.func (.func F) #[] #[], .slice none 0 0, .int .i64 0] 108) := by
  go_enter Try.func62, Try.ntmps62
  go_wp2_with fail
  go_ret
  exact ⟨rfl, rfl⟩
abbrev cuV (c : CV) : Value := .agg #[.pointer c.1.1, .int .i64 c.1.2, .slice c.2.1 c.2.2.1.length c.2.2.2]
/-- The order of cursors: by their rows. -/
def ltV (a b : RV) : Bool := decide (cmpS a.2.1 b.2.1 < 0)
set_option maxRecDepth 100000 in
theorem less_calls (a1 b1 : Option Addr) (a2 b2 : Int) (ra rb : Option Addr) (za zb : List Int) (ka kb : Nat) (w : World) (ha : Row w ra za) (hb : Row w rb zb) (hx : za.length ≤ 1000000) (hy : zb.length ≤ 1000000) :
    Calls Try.prog 63 #[.agg #[.pointer a1, .int .i64 a2, .slice ra za.length ka], .agg #[.pointer b1, .int .i64 b2, .slice rb zb.length kb]] w fun e w' => e = .returned (.bool (ltV (ra, za, ka) (rb, zb, kb))) ∧ Below w.heap.size w w' := by
  have A2 := Lib.hid ((ha.alloc (.cells #[.pointer a1, .int .i64 a2, .slice ra za.length ka] 90)).alloc (.cells #[.pointer b1, .int .i64 b2, .slice rb zb.length kb] 90))
  have B2 := Lib.hid ((hb.alloc (.cells #[.pointer a1, .int .i64 a2, .slice ra za.length ka] 90)).alloc (.cells #[.pointer b1, .int .i64 b2, .slice rb zb.length kb] 90))
  clear ha hb
  go_enter Try.func63, Try.ntmps63
  go_wp2_with fail
  refine (compare_calls ra rb ka kb za zb _ A2.out B2.out hx hy).mono ?_
  rintro e w' ⟨rfl, rfl⟩
  go_wp2_with fail
  go_ret
  exact ⟨rfl, ((Below.refl _ _).alloc (Nat.le_refl _) _).alloc (by simp) _⟩
end Go.Proofs.Ytepkmhcchmladaa.Cu
