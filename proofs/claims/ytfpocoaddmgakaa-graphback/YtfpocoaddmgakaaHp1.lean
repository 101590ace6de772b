/- A heap in memory: its block, its list of entries; contracts of NewHeap, Len, less, more, before. -/
import Derived.Test.YtfpocoaddmgakaaRows
import Derived.Test.YtfpocoaddmgakaaHpMath
import Derived.WalkKit
import Derived.WalkSpells
import Derived.WalkLawsBesides
import Derived.Lib.Hide
import Derived.BigQuiet
import Derived.BigRegion
import Derived.Deep.QuietTactic
import Derived.Deep.RegionHeld3
import Derived.StillTailTactics
import Derived.Deep.AppendLies
import Derived.Deep.DrawnRows
import Derived.Maps.AppendAt
namespace Go.Proofs.Ytfpocoaddmgakaa
open Go.RowKit
set_option linter.unusedVariables false
set_option linter.unusedSimpArgs false

/-- Only blocks of N, and new ones, may have turned. -/
structure Keeps (N : Nat → Prop) (w w' : World) : Prop where
  os : w'.os = w.os
  tape : w'.tape = w.tape
  output : w'.output = w.output
  size : w.heap.size ≤ w'.heap.size
  block : ∀ k, k < w.heap.size → ¬ N k → w'.heap[k]? = w.heap[k]?
theorem Keeps.refl (N : Nat → Prop) (w : World) : Keeps N w w := ⟨rfl, rfl, rfl, Nat.le_refl _, fun _ _ _ => rfl⟩
theorem Keeps.trans {N : Nat → Prop} {a b c : World} (h : Keeps N a b) (k : Keeps N b c) : Keeps N a c :=
  ⟨k.os.trans h.os, k.tape.trans h.tape, k.output.trans h.output, Nat.le_trans h.size k.size, fun i hi hn => (k.block i (Nat.lt_of_lt_of_le hi h.size) hn).trans (h.block i hi hn)⟩
theorem Keeps.mono {N M : Nat → Prop} {a b : World} (h : Keeps N a b) (hm : ∀ k, k < a.heap.size → N k → M k) : Keeps M a b :=
  ⟨h.os, h.tape, h.output, h.size, fun k hk hn => h.block k hk (fun hN => hn (hm k hk hN))⟩
theorem Keeps.of_grown {N : Nat → Prop} {a b : World} {row : Option Nat} (h : a.grownBy b row) (hr : ∀ k, row = some k → N k) : Keeps N a b :=
  ⟨h.os, h.tape, h.output, h.size, fun k hk hn => h.block k hk (fun e => hn (hr k e.symm))⟩
theorem Keeps.of_below {N : Nat → Prop} {a b : World} (h : Below a.heap.size a b) : Keeps N a b :=
  ⟨h.os, h.tape, h.output, h.size, fun k hk _ => h.block k hk⟩
theorem Keeps.below {N : Nat → Prop} {B : Nat} {a b : World} (h : Keeps N a b) (hB : B ≤ a.heap.size) (hN : ∀ k, N k → B ≤ k) : Below B a b :=
  ⟨h.os, h.tape, h.output, h.size, fun k hk => h.block k (by omega) (fun hn => by have := hN k hn; omega)⟩
theorem Keeps.alloc {N : Nat → Prop} {a b : World} (h : Keeps N a b) (o : Obj) : Keeps N a (b.alloc o) :=
  h.trans (Keeps.of_grown (World.grownBy_alloc b o none) (fun k hk => by cases hk))
theorem Keeps.setCell {N : Nat → Prop} {a b : World} (h : Keeps N a b) {p : Addr} (hp : N p.block) (u : Value) : Keeps N a (b.setCell p u) :=
  h.trans ⟨rfl, rfl, rfl, by simp, fun k hk hn => Below.heap_setCell b p u k (fun e => hn (e ▸ hp))⟩

/-- A row that the call owns stays while nothing of it turns. -/
theorem owns_keeps {N : Nat → Prop} {w w' : World} {base : Nat} {t : TypeId} {k : Nat} {v : Value} {n : Nat} {xs : List Value} (h : w.ownsRow base t k v n xs) (hk : Keeps N w w') (hd : ∀ b, v.ownBlock = some b → ¬ N b) : w'.ownsRow base t k v n xs := by
  refine ⟨h.1, ?_⟩
  rcases h.2 with h0 | ⟨r, cap, cur, rfl, hb, hr, hrest⟩
  · exact .inl h0
  · have hrl := (Array.getElem?_eq_some_iff.1 hr).1
    exact .inr ⟨r, cap, cur, rfl, hb, (hk.block r hrl (hd r rfl)).trans hr, hrest⟩

/-- The cells of a list of entries: value and number. -/
def flat (es : List (Int × Int)) : List Value := es.flatMap fun e => [.int .i64 e.1, .int .i64 e.2]
theorem flat_nil : flat [] = [] := rfl
theorem flat_cons (x : Int × Int) (es : List (Int × Int)) : flat (x :: es) = .int .i64 x.1 :: .int .i64 x.2 :: flat es := by simp [flat]
theorem flat_len (es : List (Int × Int)) : (flat es).length = es.length * 2 := by
  induction es with
  | nil => rfl
  | cons x es ih => rw [flat_cons]; simp [ih]; omega
theorem flat_append (l r : List (Int × Int)) : flat (l ++ r) = flat l ++ flat r := by simp [flat]
theorem flat_at {es : List (Int × Int)} {i : Nat} (h : i < es.length) : (flat es)[i * 2]? = some (.int .i64 (atE es i).1) ∧ (flat es)[i * 2 + 1]? = some (.int .i64 (atE es i).2) := by
  induction es generalizing i with
  | nil => simp at h
  | cons x es ih =>
    rw [flat_cons]
    cases i with
    | zero => simp [atE]
    | succ i =>
      have := ih (i := i) (by simpa using h)
      rw [show (i + 1) * 2 = i * 2 + 2 by omega]
      simpa [atE] using this
theorem flat_set {es : List (Int × Int)} {i : Nat} (x : Int × Int) (h : i < es.length) : ((flat es).set (i * 2) (.int .i64 x.1)).set (i * 2 + 1) (.int .i64 x.2) = flat (es.set i x) := by
  induction es generalizing i with
  | nil => simp at h
  | cons y es ih =>
    rw [flat_cons]
    cases i with
    | zero => simp [flat_cons]
    | succ i =>
      have := ih (i := i) (by simpa using h)
      rw [show (i + 1) * 2 = i * 2 + 1 + 1 by omega]
      simp only [List.set_cons_succ, flat_cons, this]

/-- The heap at block g: its order fv, its list lv with the entries es, p pushed so far. -/
structure HeapAt (w : World) (g : Nat) (fv lv : Value) (es : List (Int × Int)) (p : Int) : Prop where
  blk : w.heap[g]? = some (.cells #[fv, lv, .int .i64 p] 57 (0, 0))
  row : w.ownsRow 0 59 2 lv es.length (flat es)
  ne : lv.ownBlock ≠ some g
theorem HeapAt.lt {w : World} {g : Nat} {fv lv : Value} {es : List (Int × Int)} {p : Int} (h : HeapAt w g fv lv es p) : g < w.heap.size := (Array.getElem?_eq_some_iff.1 h.blk).1
theorem HeapAt.keeps {N : Nat → Prop} {w w' : World} {g : Nat} {fv lv : Value} {es : List (Int × Int)} {p : Int} (h : HeapAt w g fv lv es p) (hk : Keeps N w w') (hg : ¬ N g) (hl : ∀ b, lv.ownBlock = some b → ¬ N b) : HeapAt w' g fv lv es p :=
  ⟨(hk.block g h.lt hg).trans h.blk, owns_keeps h.row hk hl, h.ne⟩
theorem HeapAt.below {w w' : World} {g : Nat} {fv lv : Value} {es : List (Int × Int)} {p : Int} (h : HeapAt w g fv lv es p) (hb : Below w.heap.size w w') : HeapAt w' g fv lv es p :=
  h.keeps (N := fun _ => False) (Keeps.of_below hb) (fun h => h) (fun _ _ h => h)
theorem HeapAt.cell {w : World} {g : Nat} {fv lv : Value} {es : List (Int × Int)} {p : Int} (h : HeapAt w g fv lv es p) :
    w.cell? ⟨g, 0, none⟩ = some fv ∧ w.cell? ⟨g, 1, none⟩ = some lv ∧ w.cell? ⟨g, 2, none⟩ = some (.int .i64 p) := by
  refine ⟨?_, ?_, ?_⟩ <;> (rw [cell_of_row w g _ _ 57 (0, 0) h.blk]; rfl)
theorem HeapAt.form {w : World} {g : Nat} {fv lv : Value} {es : List (Int × Int)} {p : Int} (h : HeapAt w g fv lv es p) : ∃ a cap, lv = .slice a es.length cap := by
  rcases h.row.2 with ⟨rfl, h0⟩ | ⟨r, cap, cur, rfl, _⟩
  · rw [h0]; exact ⟨_, _, rfl⟩
  · exact ⟨_, _, rfl⟩
theorem HeapAt.form' {w : World} {g : Nat} {fv lv : Value} {es : List (Int × Int)} {p : Int} (h : HeapAt w g fv lv es p) (h0 : 0 < es.length) : ∃ r cap, lv = .slice (some ⟨r, 0, none⟩) es.length cap ∧ es.length ≤ cap ∧ cap ≤ maxLen ∧ r ≠ g ∧ r < w.heap.size := by
  rcases h.row.2 with ⟨rfl, h1⟩ | ⟨r, cap, cur, rfl, _, hh, h2, h3, _⟩
  · omega
  · exact ⟨_, _, rfl, h2, h3, fun e => h.ne (by simp [Value.ownBlock, e]), (Array.getElem?_eq_some_iff.1 hh).1⟩

theorem newheap_calls (F : Nat) (w : World) : Calls Try.prog 21 #[.func (.func F) #[] #[]] w fun e w' => e = .returned (.pointer (some ⟨w.heap.size, 0, none⟩)) ∧ w' = w.alloc (.cells #[.func (.func F) #[] #[], .slice none 0 0, .int .i64 0] 57) := by
  go_enter Try.func21, Try.ntmps21
  go_wp2_with fail
  go_ret
  exact ⟨rfl, rfl⟩
theorem less_calls (a b : Int) (w : World) : Calls Try.prog 22 #[.int .i64 a, .int .i64 b] w fun e w' => e = .returned (.bool (decide (a < b))) ∧ w = w' := by
  go_enter Try.func22, Try.ntmps22
  go_wp2_with fail
  go_ret
  exact ⟨rfl, rfl⟩
/-- Is an entry to be taken before another? -/
def ltE (lt : Int → Int → Bool) (a b : Int × Int) : Bool := lt a.1 b.1 || (!lt b.1 a.1 && decide (a.2 < b.2))
end Go.Proofs.Ytfpocoaddmgakaa
