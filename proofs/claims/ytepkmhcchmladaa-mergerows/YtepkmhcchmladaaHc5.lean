/- Contract of Push, of cursors. Written by mkhc.py. -/
import Derived.Test.YtepkmhcchmladaaHc3
import Derived.Test.YtepkmhcchmladaaHp5
import Derived.Deep.RegionLaw
namespace Go.Proofs.Ytepkmhcchmladaa.Cu
open Go.RowKit
set_option linter.unusedVariables false
set_option linter.unusedSimpArgs false

theorem info111 : (Try.prog.info? 111).map (fun i => (i.zero, i.size, i.bytes)) = some (some (.agg #[.pointer none, .int .i64 0, .slice none 0 0, .int .i64 0]), 4, 48) := by kernel_rfl

/-- What a push leaves: a heap with one entry more; only the heap's own blocks may have turned. -/
def Pushed (lt : CE → CE → Bool) (w : World) (g : Nat) (fv lv : Value) (es : List CE) (p : Int) (v : CV) (e : Ending) (w' : World) : Prop :=
  e = .returned (.tuple #[]) ∧ ∃ lv' es', HeapAt w' g fv lv' es' (p + 1) ∧ IsHeap lt es' ∧ es'.Perm ((v, p) :: es) ∧ Keeps (fun b => b = g ∨ lv.ownBlock = some b) w w' ∧ ∀ b, lv'.ownBlock = some b → lv.ownBlock = some b ∨ w.heap.size ≤ b

set_option maxRecDepth 100000 in
set_option maxHeartbeats 4000000 in
theorem push_calls {fv : Value} {lt : CE → CE → Bool} (O : Ord lt) (B : BeforeIs fv lt) {w : World} {g : Nat} {lv : Value} {es : List CE} {p : Int} (h : HeapAt w g fv lv es p) (v : CV) (hv : Rd1 w g lv.ownBlock v.2) (hh : IsHeap lt es) (hlen : es.length + 1 ≤ 1000000) (hp0 : 0 ≤ p) (hp1 : p ≤ 1000000) :
    Calls Try.prog 79 #[.pointer (some ⟨g, 0, none⟩), cuV v] w (Pushed lt w g fv lv es p v) := by
  obtain ⟨i0, hi, hz0, hz1, hz2⟩ := info_parts info111
  have I := Lib.hid hi
  have Z0 := Lib.hid hz0
  have Z1 := Lib.hid hz1
  have Z2 := Lib.hid hz2
  clear hi hz0 hz1 hz2
  have H0 := Lib.hid h
  have HV := Lib.hid hv
  have ag := h.ne
  clear h hv
  unfold cuV
  go_enter Try.func79, Try.ntmps79
  go_wp2_with fail
  have B0 := Lib.hid ((Below.refl w.heap.size w).alloc (Nat.le_refl _) (.cells #[.pointer v.1.1, .int .i64 v.1.2, .slice v.2.1 v.2.2.1.length v.2.2.2] 90))
  have H1 := Lib.hid (H0.out.below B0.out)
  have HV1 := Lib.hid (HV.out.keeps (N := fun _ => False) (Keeps.of_below B0.out) (fun _ _ h => h))
  have VB : Hid (∀ q, v.2.1 = some q → q.block < w.heap.size) := Lib.hid (fun q hq => (HV.out.2.2.2 q hq).1)
  have EB : Hid (∀ e ∈ es, ∀ q, e.1.2.1 = some q → q.block < w.heap.size) := Lib.hid (fun e he q hq => (H0.out.rd e he).2.2.2 q hq |>.1)
  have hs0 : w.heap.size ≤ (w.alloc (.cells #[.pointer v.1.1, .int .i64 v.1.2, .slice v.2.1 v.2.2.1.length v.2.2.2] 90)).heap.size := by simp
  have cb0 : (w.alloc (.cells #[.pointer v.1.1, .int .i64 v.1.2, .slice v.2.1 v.2.2.1.length v.2.2.2] 90)).cell? ⟨w.heap.size, 0, none⟩ = some (.pointer v.1.1) := by go_simp
  have cb1 : (w.alloc (.cells #[.pointer v.1.1, .int .i64 v.1.2, .slice v.2.1 v.2.2.1.length v.2.2.2] 90)).cell? ⟨w.heap.size, 1, none⟩ = some (.int .i64 v.1.2) := by go_simp
  have cb2 : (w.alloc (.cells #[.pointer v.1.1, .int .i64 v.1.2, .slice v.2.1 v.2.2.1.length v.2.2.2] 90)).cell? ⟨w.heap.size, 2, none⟩ = some (.slice v.2.1 v.2.2.1.length v.2.2.2) := by go_simp
  generalize World.alloc w _ = w0 at *
  obtain ⟨bx, hbx⟩ : ∃ x, w.heap.size = x := ⟨_, rfl⟩
  have HBX := Lib.hid hbx
  rw [hbx] at cb0 cb1 cb2 hs0 VB EB ⊢
  clear hbx
  have hbl : bx < w0.heap.size := World.block_lt_of_cell? w0 ⟨bx, 0, none⟩ cb0
  obtain ⟨c0, c1, c2⟩ := H1.out.cell
  have hgl := H1.out.lt
  have f1 : w0.frozen? ⟨g, 1, none⟩ = false := by simp [World.frozen?, H1.out.blk]
  clear c0
  go_region_law ((refine step_append_lies _ (by rfl) _ _ _ (by rfl) 0 111 i0 _ 4 48 Try.underlying106 I.out Z0.out Z1.out Z2.out rfl (by omega) lv es.length (flat es) (by rfl) ((H1.out.row.alloc _).drew) ⟨w0.heap.size, 0, none⟩ 1 1 [.pointer v.1.1, .int .i64 v.1.2, .slice v.2.1 v.2.2.1.length v.2.2.2, .int .i64 p] (by rfl) (by rfl) (World.news_of_block (cs := #[.pointer v.1.1, .int .i64 v.1.2, .slice v.2.1 v.2.2.1.length v.2.2.2, .int .i64 p]) (t := 111) (fr := (0, 0)) (heap_alloc_new w0 _)) (by simp [Value.oneCell']) (by omega) (by unfold maxLen; omega) (by omega) (by simp) (w0.heap.size + 1) (by simp) ?_; intro gg cap w1 hown1 hgrow hat hlt; have e1 : w1.cell? ⟨g, 1, none⟩ = some lv := (by rw [hgrow.cell_far _ (by simp; omega) (Ne.symm ag)]; go_simp); have e2 : w1.frozen? ⟨g, 1, none⟩ = false := (by rw [hgrow.frozen_far _ (by simp; omega) (Ne.symm ag)]; go_simp)))
  all_goals
    have hx : w0.heap.size ≤ w1.heap.size := by have := hgrow.size; simp at this; omega
    have G1 : w1.heap[g]? = some (.cells #[fv, lv, .int .i64 p] 108 (0, 0)) := by
      rw [hgrow.block g (by simp; omega) (Ne.symm ag)]
      exact (Below.heap_alloc w0 _ g hgl).trans H1.out.blk
    have hgg : gg ≠ g := by
      rcases hat with e | e
      · intro e'; subst e'; exact ag e
      · omega
    have KP0 : Keeps (fun b => b = g ∨ lv.ownBlock = some b) w0 w1 := (((Keeps.refl _ w0).alloc _).drew.trans (Keeps.of_grown (N := fun b => b = g ∨ lv.ownBlock = some b) hgrow (fun k hk => .inr hk)))
    have KP1 : Keeps (fun b => b = g ∨ lv.ownBlock = some b) w0 ((w1.setCell ⟨g, 1, none⟩ (.slice (some ⟨gg, 0, none⟩) (es.length + 1) cap)).setCell ⟨g, 2, none⟩ (.int .i64 (p + 1))) := (KP0.setCell (p := ⟨g, 1, none⟩) (.inl rfl) _).setCell (p := ⟨g, 2, none⟩) (.inl rfl) _
    have HK : Hid (Keeps (fun b => b = g ∨ lv.ownBlock = some b) w ((w1.setCell ⟨g, 1, none⟩ (.slice (some ⟨gg, 0, none⟩) (es.length + 1) cap)).setCell ⟨g, 2, none⟩ (.int .i64 (p + 1)))) := Lib.hid ((Keeps.of_below B0.out).trans KP1)
    have HAT : Hid (lv.ownBlock = some gg ∨ gg = w0.heap.size + 1) := Lib.hid hat
    have HH : Hid (HeapAt ((w1.setCell ⟨g, 1, none⟩ (.slice (some ⟨gg, 0, none⟩) (es.length + 1) cap)).setCell ⟨g, 2, none⟩ (.int .i64 (p + 1))) g fv (.slice (some ⟨gg, 0, none⟩) (es.length + 1) cap) (es ++ [(v, p)]) (p + 1)) := by
      refine Lib.hid ⟨blk_put2 (blk_put1 G1), ?_, fun e => hgg (by simpa [Value.ownBlock] using e), ?_⟩
      · have r2 := owns_keeps (N := fun b => b = g) hown1 (((Keeps.refl (fun b => b = g) w1).setCell (p := ⟨g, 1, none⟩) rfl (.slice (some ⟨gg, 0, none⟩) (es.length + 1) cap)).setCell (p := ⟨g, 2, none⟩) rfl (.int .i64 (p + 1))) (fun b hb e => hgg (by simp [Value.ownBlock] at hb; omega))
        rw [flat_append, List.length_append]
        exact r2
      · have main : ∀ x : RV, Rd1 w0 g lv.ownBlock x → (∀ q, x.1 = some q → q.block < bx) → Rd1 ((w1.setCell ⟨g, 1, none⟩ (.slice (some ⟨gg, 0, none⟩) (es.length + 1) cap)).setCell ⟨g, 2, none⟩ (.int .i64 (p + 1))) g (Value.slice (some ⟨gg, 0, none⟩) (es.length + 1) cap).ownBlock x := fun x hx hb => by
          have h9 := hx.keeps KP1 (fun q hq hN => by
            have := hx.2.2.2 q hq
            rcases hN with e | e
            · exact this.2.1 e
            · exact this.2.2 e)
          refine ⟨h9.1, h9.2.1, h9.2.2.1, fun q hq => ⟨(h9.2.2.2 q hq).1, (h9.2.2.2 q hq).2.1, fun e => ?_⟩⟩
          simp only [Value.ownBlock, Option.some.injEq] at e
          rcases HAT.out with e' | e'
          · exact (hx.2.2.2 q hq).2.2 (by rw [e', e])
          · have := hb q hq; omega
        intro e he
        rcases List.mem_append.1 he with h' | h'
        · exact main _ (H1.out.rd e h') (EB.out e h')
        · obtain rfl := List.mem_singleton.1 h'
          exact main _ HV1.out VB.out
    have e3 : w1.cell? ⟨g, 2, none⟩ = some (.int .i64 p) := by rw [cell_of_row w1 g 2 _ 108 (0, 0) G1]; rfl
    have e4 : w1.frozen? ⟨g, 2, none⟩ = false := by simp [World.frozen?, G1]
    clear hown1 hgrow hat G1 KP0 KP1 c1 c2 f1 cb0 cb1 cb2
    go_wp2_with (first | (go_at_call 94; refine (up_calls O B HH.out es.length (by simp) (up_start hh (v, p)) (by simp; omega)).mono ?_; rintro e w2 ⟨rfl, es', hA, hB, hC, hD⟩))
    go_end0
    refine ⟨rfl, _, es', hA, hB, hC.trans List.perm_append_comm, HK.out.then hD (fun b hb e => ?_), fun b hb => ?_⟩
    · simp only [Value.ownBlock, Option.some.injEq] at e
      rcases HAT.out with e' | e'
      · exact .inr (by rw [e', e])
      · rw [HBX.out] at hb; omega
    · simp only [Value.ownBlock, Option.some.injEq] at hb
      rcases HAT.out with e' | e'
      · exact .inl (by rw [e', hb])
      · exact .inr (by rw [HBX.out]; omega)
end Go.Proofs.Ytepkmhcchmladaa.Cu
