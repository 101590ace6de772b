/- The state of MergeHeap: a heap of Things, and the list beside it; what the best of the list is. -/
import Derived.Test.YtkcpdkhdjgfigaaHt7
import Derived.Test.YtkcpdkhdjgfigaaHp7
namespace Go.Proofs.Ytkcpdkhdjgfigaa
open Go.RowKit
set_option linter.unusedVariables false
set_option linter.unusedSimpArgs false

abbrev TE := (Int × Int) × Int
/-- The first of the least, by the list's order. -/
def BestTo (ts : List (Int × Int)) (k f : Nat) : Prop := f < ts.length ∧ ∀ j, j < k → (atE ts f).1 ≤ (atE ts j).1 ∧ (j < f → (atE ts f).1 < (atE ts j).1)
theorem best_start {ts : List (Int × Int)} (h : 0 < ts.length) : BestTo ts 0 0 := ⟨h, fun j hj => by omega⟩
theorem best_yes {ts : List (Int × Int)} {k f : Nat} (h : BestTo ts k f) (hk : k < ts.length) (hl : (atE ts k).1 < (atE ts f).1) : BestTo ts (k + 1) k := by
  refine ⟨hk, fun j hj => ?_⟩
  by_cases e : j = k
  · subst e; exact ⟨Int.le_refl _, fun h => by omega⟩
  · have := h.2 j (by omega)
    exact ⟨by omega, fun _ => by omega⟩
theorem best_no {ts : List (Int × Int)} {k f : Nat} (h : BestTo ts k f) (hfk : f ≤ k) (hl : ¬ (atE ts k).1 < (atE ts f).1) : BestTo ts (k + 1) f := by
  refine ⟨h.1, fun j hj => ?_⟩
  by_cases e : j = k
  · subst e; exact ⟨by omega, fun h => by omega⟩
  · exact h.2 j (by omega)
theorem map_atE {bs : List TE} {i : Nat} (h : i < bs.length) : atE (bs.map (·.1)) i = (atE bs i).1 := by simp [atE, h]
theorem best_is {bs bs' : List TE} {x : TE} (asc : bs.Pairwise (fun a b => a.2 < b.2)) (hx : bs.Perm (x :: bs')) (hmin : ∀ y ∈ bs', Th.ltT y x = false) {f : Nat} (hb : BestTo (bs.map (·.1)) bs.length f) : atE bs f = x ∧ bs'.Perm (bs.eraseIdx f) := by
  have hf : f < bs.length := by have := hb.1; simpa using this
  have hlt : ∀ i j, i < j → j < bs.length → (atE bs i).2 < (atE bs j).2 := fun i j h1 h2 => by
    rw [atE_eq (by omega), atE_eq h2]
    exact List.pairwise_iff_getElem.1 asc i j (by omega) h2 h1
  have e : atE bs f = x := by
    obtain ⟨k, hk, hkx⟩ := mem_atE (show x ∈ bs from hx.symm.subset List.mem_cons_self)
    have hy : atE bs f ∈ x :: bs' := hx.subset (atE_mem hf)
    rcases List.mem_cons.1 hy with h | h
    · exact h
    · have h1 := hmin _ h
      rw [Th.ltT_not] at h1
      have h2 := hb.2 k hk
      rw [map_atE hf, map_atE hk, hkx] at h2
      rcases Nat.lt_trichotomy k f with h3 | h3 | h3
      · have := h2.2 h3; omega
      · rw [← h3]; exact hkx
      · have := hlt f k h3 hk; rw [hkx] at this; omega
  refine ⟨e, ?_⟩
  have e2 : bs.take f ++ atE bs f :: bs.drop (f + 1) = bs := by rw [atE_eq hf, List.getElem_cons_drop, List.take_append_drop]
  have h1 : (bs.take f ++ atE bs f :: bs.drop (f + 1)).Perm (atE bs f :: (bs.take f ++ bs.drop (f + 1))) := List.perm_middle
  rw [e2, ← List.eraseIdx_eq_take_drop_succ] at h1
  rw [e] at h1
  exact (List.perm_cons x).1 (hx.symm.trans h1)

/-- The heap and the list beside it. -/
structure LS (C : Nat) (w : World) (g : Nat) (v : Value) (hb : List TE) (ts : List (Int × Int)) (p : Int) : Prop where
  heap : ∃ own bag, Th.HS Th.ltT w g own Th.fT bag p ∧ bag.Perm hb ∧ C ≤ g ∧ (∀ b, own = some b → C ≤ b) ∧ ∀ b, v.ownBlock = some b → b ≠ g ∧ own ≠ some b
  list : w.ownsRow C 48 2 v ts.length (flat ts)
  size : C ≤ w.heap.size
theorem LS.below {C : Nat} {w w' : World} {g : Nat} {v : Value} {hb : List TE} {ts : List (Int × Int)} {p : Int} (h : LS C w g v hb ts p) (b : Below w.heap.size w w') : LS C w' g v hb ts p := by
  obtain ⟨own, bag, h1, h2⟩ := h.heap
  exact ⟨⟨own, bag, h1.keeps (N := fun _ => False) (Keeps.of_below b) (fun h => h) (fun _ _ h => h), h2⟩, owns_keeps (N := fun _ => False) h.list (Keeps.of_below b) (fun _ _ h => h), Nat.le_trans h.size b.size⟩
theorem LS.drewN {C : Nat} {w : World} {g : Nat} {v : Value} {hb : List TE} {ts : List (Int × Int)} {p : Int} (h : LS C w g v hb ts p) (n : Nat) : LS C (w.drewN n) g v hb ts p := h.below (below_drewN (Below.refl _ _) n)
theorem ls_push {C : Nat} {w : World} {g : Nat} {v : Value} {hb : List TE} {ts : List (Int × Int)} {p : Int} (h : LS C w g v hb ts p) (x : Int × Int) (hlen : hb.length + 1 ≤ 1000000) (hp0 : 0 ≤ p) (hp1 : p ≤ 1000000) {a : Nat} (ha : a < w.heap.size) (hna : ∃ cs, w.heap[a]? = some (.cells cs 52 (0, 0))) :
    Calls Try.prog 31 #[.pointer (some ⟨g, 0, none⟩), .agg #[.int .i64 x.1, .int .i64 x.2]] w fun e w' => e = .returned (.tuple #[]) ∧ LS C w' g v (hb ++ [(x, p)]) ts (p + 1) ∧ Below C w w' ∧ w'.heap[a]? = w.heap[a]? := by
  obtain ⟨own, bag, h1, h2, h3, h4, h5⟩ := h.heap
  obtain ⟨cs, hcs⟩ := hna
  have hag : a ≠ g := fun e => by
    obtain ⟨lv, es, hA, _⟩ := h1
    have := hA.blk
    rw [← e, hcs] at this
    simp at this
  have hao : own ≠ some a := fun e => by
    obtain ⟨lv, es, hA, _, _, hO⟩ := h1
    rcases hA.row.2 with ⟨h0, _⟩ | ⟨r, cap, cur, hv, hb0, hh, _⟩
    · rw [h0] at hO; rw [← hO] at e; cases e
    · rw [hv] at hO
      rw [← hO] at e
      simp [Value.ownBlock] at e
      rw [e, hcs] at hh
      simp at hh
  refine (Th.hs_push Th.ordT Th.befT h1 x (by rw [h2.length_eq]; exact hlen) hp0 hp1).mono fun e w' ⟨he, own', k1, k2, k3⟩ => ⟨he, ⟨⟨own', _, k1, ((h2.cons (x, p)).trans (List.perm_append_singleton (x, p) hb).symm), h3, fun b hb' => ?_, fun b hb' => ?_⟩, ?_, ?_⟩, ?_, ?_⟩
  · rcases k3 b hb' with k | k
    · exact h4 b k
    · exact Nat.le_trans h.size k
  · refine ⟨(h5 b hb').1, fun e => ?_⟩
    rcases k3 b e with k | k
    · exact (h5 b hb').2 k
    · have := (h.list.lt b hb').2; omega
  · exact owns_keeps h.list k2 (fun b hb' e => by
      rcases e with e | e
      · exact (h5 b hb').1 e
      · exact (h5 b hb').2 e)
  · exact Nat.le_trans h.size k2.size
  · exact k2.below h.size (fun b hb' => by
      rcases hb' with e | e
      · rw [e]; exact h3
      · exact h4 b e)
  · exact k2.block a ha (fun e => by
      rcases e with e | e
      · exact hag e
      · exact hao e)
def PopL (C : Nat) (w : World) (g : Nat) (v : Value) (hb : List TE) (ts : List (Int × Int)) (p : Int) (e : Ending) (w' : World) : Prop :=
  ∃ (x : TE) (hb' : List TE), e = .returned (.tuple #[.agg #[.int .i64 x.1.1, .int .i64 x.1.2], .bool true]) ∧ hb.Perm (x :: hb') ∧ (∀ y ∈ hb', Th.ltT y x = false) ∧ LS C w' g v hb' ts p ∧ Below C w w'
theorem ls_pop {C : Nat} {w : World} {g : Nat} {v : Value} {hb : List TE} {ts : List (Int × Int)} {p : Int} (h : LS C w g v hb ts p) (h0 : 0 < hb.length) (hlen : hb.length ≤ 1000000) :
    Calls Try.prog 32 #[.pointer (some ⟨g, 0, none⟩)] w (PopL C w g v hb ts p) := by
  obtain ⟨own, bag, h1, h2, h3, h4, h5⟩ := h.heap
  refine (Th.hs_pop Th.ordT Th.befT h1 (by rw [h2.length_eq]; exact h0) (by rw [h2.length_eq]; exact hlen)).mono fun e w' ⟨x, bag', he, k1, k2, k3, k4⟩ => ⟨x, bag', he, h2.symm.trans k1, k2, ⟨⟨own, bag', k3, List.Perm.refl _, h3, h4, h5⟩, ?_, ?_⟩, ?_⟩
  · exact owns_keeps h.list k4 (fun b hb' e => by
      rcases e with e | e
      · exact (h5 b hb').1 e
      · exact (h5 b hb').2 e)
  · exact Nat.le_trans h.size k4.size
  · exact k4.below h.size (fun b hb' => by
      rcases hb' with e | e
      · rw [e]; exact h3
      · exact h4 b e)
theorem ls_pop_none {C : Nat} {w : World} {g : Nat} {v : Value} {ts : List (Int × Int)} {p : Int} (h : LS C w g v [] ts p) :
    Calls Try.prog 32 #[.pointer (some ⟨g, 0, none⟩)] w fun e w' => e = .returned (.tuple #[.agg #[.int .i64 0, .int .i64 0], .bool false]) ∧ Below w.heap.size w w' := by
  obtain ⟨own, bag, h1, h2, _⟩ := h.heap
  obtain rfl : bag = [] := h2.eq_nil
  exact Th.hs_pop_none h1
theorem ls_len {C : Nat} {w : World} {g : Nat} {v : Value} {hb : List TE} {ts : List (Int × Int)} {p : Int} (h : LS C w g v hb ts p) :
    Calls Try.prog 33 #[.pointer (some ⟨g, 0, none⟩)] w fun e w' => e = .returned (.int .i64 hb.length) ∧ w = w' := by
  obtain ⟨own, bag, h1, h2, _⟩ := h.heap
  exact Th.hs_len h1 _ h2.length_eq
/-- The list has turned, or is a new one. -/
theorem LS.relist {C : Nat} {w w1 : World} {g : Nat} {v v' : Value} {hb : List TE} {ts ts' : List (Int × Int)} {p : Int} (h : LS C w g v hb ts p) (hl : w1.ownsRow C 48 2 v' ts'.length (flat ts')) (hk : Keeps (fun b => v.ownBlock = some b) w w1) (hat : ∀ b, v'.ownBlock = some b → v.ownBlock = some b ∨ w.heap.size ≤ b) : LS C w1 g v' hb ts' p := by
  obtain ⟨own, bag, h1, h2, h3, h4, h5⟩ := h.heap
  refine ⟨⟨own, bag, h1.keeps hk (fun e => (h5 g e).1 rfl) (fun b hb' e => (h5 b e).2 hb'), h2, h3, h4, fun b hb' => ?_⟩, hl, Nat.le_trans h.size hk.size⟩
  rcases hat b hb' with e | e
  · exact h5 b e
  · obtain ⟨q1, q2⟩ := h1.lt
    exact ⟨by omega, fun e' => by have := q2 b e'; omega⟩
theorem ls_new {C : Nat} {w : World} (hC : w.heap.size = C) : LS C ((w.alloc (.cells #[Th.fT, .slice none 0 0, .int .i64 0] 85)).alloc (.cells #[] 48)) C (.slice (some ⟨C + 1, 0, none⟩) 0 0) [] [] 0 := by
  subst hC
  have h1 := Th.hs_new (lt := Th.ltT) w Th.fT
  refine ⟨⟨none, [], h1.keeps (N := fun _ => False) (Keeps.of_below ((Below.refl _ _).alloc (Nat.le_refl _) _)) (fun h => h) (fun _ _ h => h), List.Perm.refl _, Nat.le_refl _, (fun b hb => by cases hb), fun b hb => ?_⟩, ?_, by simp; omega⟩
  · simp [Value.ownBlock] at hb; exact ⟨by omega, by simp⟩
  · have := World.ownsRow_lit (base := w.heap.size) (e := 48) (size := 2) (w.alloc (.cells #[Th.fT, .slice none 0 0, .int .i64 0] 85)) #[] 0 (by simp) (by decide) rfl
    simpa [flat] using this
/-- Acts in memory. -/
def ActsAt (w : World) (a : Option Addr) (acts : List (Bool × Int)) : Prop :=
  acts = [] ∨ ∃ b off, a = some ⟨b, off, none⟩ ∧ b < w.heap.size ∧ ∀ i, i < acts.length → w.cell? ⟨b, off + i * 2, none⟩ = some (.bool (atE acts i).1) ∧ w.cell? ⟨b, off + i * 2 + 1, none⟩ = some (.int .i64 (atE acts i).2)
theorem ActsAt.belowB {w w' : World} {B : Nat} {a : Option Addr} {acts : List (Bool × Int)} (h : ActsAt w a acts) (hB : w.heap.size = B) (hb : Below B w w') : ActsAt w' a acts := by
  subst hB
  rcases h with rfl | ⟨b, off, rfl, hlt, hc⟩
  · exact .inl rfl
  · exact .inr ⟨b, off, rfl, Nat.lt_of_lt_of_le hlt hb.size, fun i hi => ⟨(hb.cell (p := ⟨b, off + i * 2, none⟩) hlt).trans (hc i hi).1, (hb.cell (p := ⟨b, off + i * 2 + 1, none⟩) hlt).trans (hc i hi).2⟩⟩
theorem ActsAt.at {w : World} {a : Option Addr} {acts : List (Bool × Int)} (h : ActsAt w a acts) {i : Nat} (hi : i < acts.length) : ∃ b off, a = some ⟨b, off, none⟩ ∧ b < w.heap.size ∧ w.cell? ⟨b, off + i * 2, none⟩ = some (.bool (atE acts i).1) ∧ w.cell? ⟨b, off + i * 2 + 1, none⟩ = some (.int .i64 (atE acts i).2) := by
  rcases h with rfl | ⟨b, off, rfl, hlt, hc⟩
  · simp at hi
  · exact ⟨b, off, rfl, hlt, (hc i hi).1, (hc i hi).2⟩
theorem info48 : (Try.prog.info? 48).map (fun i => (i.zero, i.size, i.bytes)) = some (some (.agg #[.int .i64 0, .int .i64 0]), 2, 16) := by kernel_rfl
end Go.Proofs.Ytkcpdkhdjgfigaa
