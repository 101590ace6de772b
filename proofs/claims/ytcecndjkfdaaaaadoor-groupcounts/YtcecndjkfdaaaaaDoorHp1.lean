/- Only some blocks may have turned. -/
import Derived.Test.YtcecndjkfdaaaaaDoorRows
import Derived.WalkKit
import Derived.WalkSpells
import Derived.WalkLawsBesides
import Derived.Lib.Hide
import Derived.BigQuiet
import Derived.BigRegion
import Derived.Deep.QuietTactic
import Derived.Deep.RegionHeld3
import Derived.StillTailTactics
import Derived.Deep.AppendLies
import Derived.Deep.DrawnRows
import Derived.Maps.AppendAt
namespace Go.Proofs.YtcecndjkfdaaaaaDoor
open Go.RowKit
set_option linter.unusedVariables false
set_option linter.unusedSimpArgs false

/-- Only blocks of N, and new ones, may have turned. -/
structure Keeps (N : Nat → Prop) (w w' : World) : Prop where
  os : w'.os = w.os
  tape : w'.tape = w.tape
  output : w'.output = w.output
  size : w.heap.size ≤ w'.heap.size
  block : ∀ k, k < w.heap.size → ¬ N k → w'.heap[k]? = w.heap[k]?
theorem Keeps.refl (N : Nat → Prop) (w : World) : Keeps N w w := ⟨rfl, rfl, rfl, Nat.le_refl _, fun _ _ _ => rfl⟩
theorem Keeps.trans {N : Nat → Prop} {a b c : World} (h : Keeps N a b) (k : Keeps N b c) : Keeps N a c :=
  ⟨k.os.trans h.os, k.tape.trans h.tape, k.output.trans h.output, Nat.le_trans h.size k.size, fun i hi hn => (k.block i (Nat.lt_of_lt_of_le hi h.size) hn).trans (h.block i hi hn)⟩
theorem Keeps.mono {N M : Nat → Prop} {a b : World} (h : Keeps N a b) (hm : ∀ k, k < a.heap.size → N k → M k) : Keeps M a b :=
  ⟨h.os, h.tape, h.output, h.size, fun k hk hn => h.block k hk (fun hN => hn (hm k hk hN))⟩
theorem Keeps.of_grown {N : Nat → Prop} {a b : World} {row : Option Nat} (h : a.grownBy b row) (hr : ∀ k, row = some k → N k) : Keeps N a b :=
  ⟨h.os, h.tape, h.output, h.size, fun k hk hn => h.block k hk (fun e => hn (hr k e.symm))⟩
theorem Keeps.of_below {N : Nat → Prop} {a b : World} (h : Below a.heap.size a b) : Keeps N a b :=
  ⟨h.os, h.tape, h.output, h.size, fun k hk _ => h.block k hk⟩
theorem Keeps.below {N : Nat → Prop} {B : Nat} {a b : World} (h : Keeps N a b) (hB : B ≤ a.heap.size) (hN : ∀ k, N k → B ≤ k) : Below B a b :=
  ⟨h.os, h.tape, h.output, h.size, fun k hk => h.block k (by omega) (fun hn => by have := hN k hn; omega)⟩
theorem Keeps.alloc {N : Nat → Prop} {a b : World} (h : Keeps N a b) (o : Obj) : Keeps N a (b.alloc o) :=
  h.trans (Keeps.of_grown (World.grownBy_alloc b o none) (fun k hk => by cases hk))
theorem Keeps.setCell {N : Nat → Prop} {a b : World} (h : Keeps N a b) {p : Addr} (hp : N p.block) (u : Value) : Keeps N a (b.setCell p u) :=
  h.trans ⟨rfl, rfl, rfl, by simp, fun k hk hn => Below.heap_setCell b p u k (fun e => hn (e ▸ hp))⟩

/-- A row that the call owns stays while nothing of it turns. -/
theorem owns_keeps {N : Nat → Prop} {w w' : World} {base : Nat} {t : TypeId} {k : Nat} {v : Value} {n : Nat} {xs : List Value} (h : w.ownsRow base t k v n xs) (hk : Keeps N w w') (hd : ∀ b, v.ownBlock = some b → ¬ N b) : w'.ownsRow base t k v n xs := by
  refine ⟨h.1, ?_⟩
  rcases h.2 with h0 | ⟨r, cap, cur, rfl, hb, hr, hrest⟩
  · exact .inl h0
  · have hrl := (Array.getElem?_eq_some_iff.1 hr).1
    exact .inr ⟨r, cap, cur, rfl, hb, (hk.block r hrl (hd r rfl)).trans hr, hrest⟩

end Go.Proofs.YtcecndjkfdaaaaaDoor
