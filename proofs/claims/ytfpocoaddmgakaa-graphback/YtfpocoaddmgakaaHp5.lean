/- Contract of Push. -/
import Derived.Test.YtfpocoaddmgakaaHp3
import Derived.Deep.RegionLaw
namespace Go.Proofs.Ytfpocoaddmgakaa
open Go.RowKit
set_option linter.unusedVariables false
set_option linter.unusedSimpArgs false

theorem info59 : (Try.prog.info? 59).map (fun i => (i.zero, i.size, i.bytes)) = some (some (.agg #[.int .i64 0, .int .i64 0]), 2, 16) := by kernel_rfl

/-- What a push leaves: a heap with one entry more; only the heap's own blocks may have turned. -/
def Pushed (lt : (Int × Int) → (Int × Int) → Bool) (w : World) (g : Nat) (fv lv : Value) (es : List (Int × Int)) (p v : Int) (e : Ending) (w' : World) : Prop :=
  e = .returned (.tuple #[]) ∧ ∃ lv' es', HeapAt w' g fv lv' es' (p + 1) ∧ IsHeap lt es' ∧ es'.Perm ((v, p) :: es) ∧ Keeps (fun b => b = g ∨ lv.ownBlock = some b) w w' ∧ ∀ b, lv'.ownBlock = some b → lv.ownBlock = some b ∨ w.heap.size ≤ b

theorem Keeps.then {N M : Nat → Prop} {a b c : World} (h : Keeps N a b) (k : Keeps M b c) (hm : ∀ i, i < a.heap.size → M i → N i) : Keeps N a c :=
  ⟨k.os.trans h.os, k.tape.trans h.tape, k.output.trans h.output, Nat.le_trans h.size k.size, fun i hi hn => (k.block i (Nat.lt_of_lt_of_le hi h.size) (fun e => hn (hm i hi e))).trans (h.block i hi hn)⟩
theorem Keeps.drew {N : Nat → Prop} {a b : World} (h : Keeps N a b) : Keeps N a b.drew := ⟨h.os, h.tape, h.output, h.size, h.block⟩
theorem Keeps.drewN {N : Nat → Prop} {a b : World} (h : Keeps N a b) (n : Nat) : Keeps N a (b.drewN n) := ⟨h.os, h.tape, h.output, h.size, h.block⟩
theorem blk_put1 {w : World} {g : Nat} {a b c u : Value} {t : TypeId} (h : w.heap[g]? = some (.cells #[a, b, c] t (0, 0))) : (w.setCell ⟨g, 1, none⟩ u).heap[g]? = some (.cells #[a, u, c] t (0, 0)) := by
  rw [heap_setCell_same w g 1 _ t u h]; rfl
theorem blk_put2 {w : World} {g : Nat} {a b c u : Value} {t : TypeId} (h : w.heap[g]? = some (.cells #[a, b, c] t (0, 0))) : (w.setCell ⟨g, 2, none⟩ u).heap[g]? = some (.cells #[a, b, u] t (0, 0)) := by
  rw [heap_setCell_same w g 2 _ t u h]; rfl

set_option maxRecDepth 100000 in
set_option maxHeartbeats 4000000 in
theorem push_calls {fv : Value} {lt : (Int × Int) → (Int × Int) → Bool} (O : Ord lt) (B : BeforeIs fv lt) {w : World} {g : Nat} {lv : Value} {es : List (Int × Int)} {p : Int} (h : HeapAt w g fv lv es p) (v : Int) (hh : IsHeap lt es) (hlen : es.length + 1 ≤ 1000000) (hp0 : 0 ≤ p) (hp1 : p ≤ 1000000) :
    Calls Try.prog 23 #[.pointer (some ⟨g, 0, none⟩), .int .i64 v] w (Pushed lt w g fv lv es p v) := by
  obtain ⟨i0, hi, hz0, hz1, hz2⟩ := info_parts info59
  have I := Lib.hid hi
  have Z0 := Lib.hid hz0
  have Z1 := Lib.hid hz1
  have Z2 := Lib.hid hz2
  clear hi hz0 hz1 hz2
  obtain ⟨c0, c1, c2⟩ := h.cell
  have hgl := h.lt
  have ag := h.ne
  have f1 : w.frozen? ⟨g, 1, none⟩ = false := by simp [World.frozen?, h.blk]
  have H0 := Lib.hid h
  clear h c0
  go_enter Try.func23, Try.ntmps23
  go_wp2_with fail
  go_region_law ((refine step_append_lies _ (by rfl) _ _ _ (by rfl) 0 59 i0 _ 2 16 Try.underlying55 I.out Z0.out Z1.out Z2.out rfl (by omega) lv es.length (flat es) (by rfl) ((H0.out.row.alloc _).drew) ⟨w.heap.size, 0, none⟩ 1 1 [.int .i64 v, .int .i64 p] (by rfl) (by rfl) (World.news_of_block (cs := #[.int .i64 v, .int .i64 p]) (t := 59) (fr := (0, 0)) (heap_alloc_new w _)) (by simp [Value.oneCell']) (by omega) (by unfold maxLen; omega) (by omega) (by simp) (w.heap.size + 1) (by simp) ?_; intro gg cap w1 hown1 hgrow hat hlt; have e1 : w1.cell? ⟨g, 1, none⟩ = some lv := (by rw [hgrow.cell_far _ (by simp; omega) (Ne.symm ag)]; go_simp); have e2 : w1.frozen? ⟨g, 1, none⟩ = false := (by rw [hgrow.frozen_far _ (by simp; omega) (Ne.symm ag)]; go_simp)))
  all_goals
    have hx : w.heap.size ≤ w1.heap.size := by have := hgrow.size; simp at this; omega
    have G1 : w1.heap[g]? = some (.cells #[fv, lv, .int .i64 p] 57 (0, 0)) := by
      rw [hgrow.block g (by simp; omega) (Ne.symm ag)]
      exact (Below.heap_alloc w _ g hgl).trans H0.out.blk
    have hgg : gg ≠ g := by
      rcases hat with e | e
      · intro e'; subst e'; exact ag e
      · omega
    have KP : Keeps (fun b => b = g ∨ lv.ownBlock = some b) w w1 := ((Keeps.refl _ w).alloc _).drew.trans (Keeps.of_grown (N := fun b => b = g ∨ lv.ownBlock = some b) hgrow (fun k hk => .inr hk))
    have HK : Hid (Keeps (fun b => b = g ∨ lv.ownBlock = some b) w ((w1.setCell ⟨g, 1, none⟩ (.slice (some ⟨gg, 0, none⟩) (es.length + 1) cap)).setCell ⟨g, 2, none⟩ (.int .i64 (p + 1)))) := Lib.hid ((KP.setCell (p := ⟨g, 1, none⟩) (.inl rfl) _).setCell (p := ⟨g, 2, none⟩) (.inl rfl) _)
    have HH : Hid (HeapAt ((w1.setCell ⟨g, 1, none⟩ (.slice (some ⟨gg, 0, none⟩) (es.length + 1) cap)).setCell ⟨g, 2, none⟩ (.int .i64 (p + 1))) g fv (.slice (some ⟨gg, 0, none⟩) (es.length + 1) cap) (es ++ [(v, p)]) (p + 1)) := by
      refine Lib.hid ⟨blk_put2 (blk_put1 G1), ?_, fun e => hgg (by simpa [Value.ownBlock] using e)⟩
      have r2 := owns_keeps (N := fun b => b = g) hown1 (((Keeps.refl (fun b => b = g) w1).setCell (p := ⟨g, 1, none⟩) rfl (.slice (some ⟨gg, 0, none⟩) (es.length + 1) cap)).setCell (p := ⟨g, 2, none⟩) rfl (.int .i64 (p + 1))) (fun b hb e => hgg (by simp [Value.ownBlock] at hb; omega))
      rw [flat_append, List.length_append]
      exact r2
    have HAT : Hid (lv.ownBlock = some gg ∨ gg = w.heap.size + 1) := Lib.hid hat
    have e3 : w1.cell? ⟨g, 2, none⟩ = some (.int .i64 p) := by rw [cell_of_row w1 g 2 _ 57 (0, 0) G1]; rfl
    have e4 : w1.frozen? ⟨g, 2, none⟩ = false := by simp [World.frozen?, G1]
    clear hown1 hgrow hat G1 KP c1 c2 f1
    go_wp2_with (first | (go_at_call 29; refine (up_calls O B HH.out es.length (by simp) (up_start hh (v, p)) (by simp; omega)).mono ?_; rintro e w2 ⟨rfl, es', hA, hB, hC, hD⟩))
    go_end0
    refine ⟨rfl, _, es', hA, hB, hC.trans List.perm_append_comm, HK.out.then hD (fun b hb e => ?_), fun b hb => ?_⟩
    · simp only [Value.ownBlock, Option.some.injEq] at e
      rcases HAT.out with e' | e'
      · exact .inr (by rw [e', e])
      · omega
    · simp only [Value.ownBlock, Option.some.injEq] at hb
      rcases HAT.out with e' | e'
      · exact .inl (by rw [e', hb])
      · exact .inr (by omega)
end Go.Proofs.Ytfpocoaddmgakaa
