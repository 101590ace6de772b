/- Contract of Pop, of Things. Written by mkht.py. -/
import Derived.Test.YtkcpdkhdjgfigaaHt4
import Derived.Test.YtkcpdkhdjgfigaaHt5
import Derived.Test.YtkcpdkhdjgfigaaHp6
import Derived.WalkSmall
namespace Go.Proofs.Ytkcpdkhdjgfigaa.Th
open Go.RowKit
set_option linter.unusedVariables false
set_option linter.unusedSimpArgs false

def Nothing (w : World) (e : Ending) (w' : World) : Prop := e = .returned (.tuple #[]) ∧ w = w'
set_option maxRecDepth 100000 in
set_option maxHeartbeats 1000000 in
theorem down_empty {w : World} {g : Nat} {a : Option Addr} {cap : Nat} (c1 : w.cell? ⟨g, 1, none⟩ = some (.slice a 0 cap)) :
    Calls Try.prog 60 #[.pointer (some ⟨g, 0, none⟩), .int .i64 0] w (Nothing w) := by
  go_enter Try.func60, Try.ntmps60
  go_wp2_with fail
  go_loopw [1] (fun s wr => s = .int .i64 0 ∧ w = wr) (fun _ _ => 0)
  case atStart => exact ⟨rfl, rfl⟩
  case round =>
    obtain ⟨rfl, rfl⟩ := hrel
    obtain ⟨wm, hwm⟩ : ∃ x, x = w := ⟨w, rfl⟩
    rw [← hwm] at c1
    go_wp2_with fail
    go_loopw [4, 5] (fun s4 s5 wv => s4 = .int .i64 0 ∧ s5 = .int .i64 1 ∧ w = wv) (fun _ _ _ => 0)
    case atStart => exact ⟨rfl, rfl, rfl⟩
    case round =>
      obtain ⟨rfl, rfl, rfl⟩ := hrel
      subst hwm
      go_wp2_with fail
      go_end0
      exact ⟨rfl, rfl⟩

theorem heap_popped {w : World} {g r cap m : Nat} {fv : Value} {es : List ((Int × Int) × Int)} {p : Int} (h : HeapAt w g fv (.slice (some ⟨r, 0, none⟩) es.length cap) es p) (hm : es.length = m + 1) :
    HeapAt (((((((w.setCell ⟨r, 0, none⟩ (.int .i64 (atE es m).1.1)).setCell ⟨r, 1, none⟩ (.int .i64 (atE es m).1.2)).setCell ⟨r, 2, none⟩ (.int .i64 (atE es m).2)).setCell ⟨r, m * 3, none⟩ (.int .i64 0)).setCell ⟨r, m * 3 + 1, none⟩ (.int .i64 0)).setCell ⟨r, m * 3 + 2, none⟩ (.int .i64 0)).setCell ⟨g, 1, none⟩ (.slice (some ⟨r, 0, none⟩) m cap)) g fv (.slice (some ⟨r, 0, none⟩) m cap) (popL es) p ∧
    Keeps (fun b => b = g ∨ r = b) w (((((((w.setCell ⟨r, 0, none⟩ (.int .i64 (atE es m).1.1)).setCell ⟨r, 1, none⟩ (.int .i64 (atE es m).1.2)).setCell ⟨r, 2, none⟩ (.int .i64 (atE es m).2)).setCell ⟨r, m * 3, none⟩ (.int .i64 0)).setCell ⟨r, m * 3 + 1, none⟩ (.int .i64 0)).setCell ⟨r, m * 3 + 2, none⟩ (.int .i64 0)).setCell ⟨g, 1, none⟩ (.slice (some ⟨r, 0, none⟩) m cap)) := by
  have hgr : g ≠ r := fun e => h.ne (by simp [Value.ownBlock, e])
  have K6 := (((((Keeps.refl (fun b => b = g ∨ r = b) w).setCell (p := ⟨r, 0, none⟩) (.inr rfl) (.int .i64 (atE es m).1.1)).setCell (p := ⟨r, 1, none⟩) (.inr rfl) (.int .i64 (atE es m).1.2)).setCell (p := ⟨r, 2, none⟩) (.inr rfl) (.int .i64 (atE es m).2)).setCell (p := ⟨r, m * 3, none⟩) (.inr rfl) (.int .i64 0)).setCell (p := ⟨r, m * 3 + 1, none⟩) (.inr rfl) (.int .i64 0) |>.setCell (p := ⟨r, m * 3 + 2, none⟩) (.inr rfl) (.int .i64 0)
  refine ⟨?_, K6.setCell (p := ⟨g, 1, none⟩) (.inl rfl) _⟩
  have h1 := (h.row.stored 0 (.int .i64 (atE es m).1.1)).1
  have h2 := (h1.stored 1 (.int .i64 (atE es m).1.2)).1
  have h3 := (h2.stored 2 (.int .i64 (atE es m).2)).1
  have h4 := (h3.stored (m * 3) (.int .i64 0)).1
  have h5 := (h4.stored (m * 3 + 1) (.int .i64 0)).1
  have h6 := (h5.stored (m * 3 + 2) (.int .i64 0)).1
  have e1 := flat_set (es := es) (i := 0) (atE es m) (by omega)
  rw [Nat.zero_mul, Nat.zero_add, Nat.zero_add] at e1
  rw [e1] at h6
  have e2 := flat_set (es := es.set 0 (atE es m)) (i := m) ((0, 0), 0) (by simp; omega)
  rw [e2] at h6
  have e3 : (es.set 0 (atE es m)).set m ((0, 0), 0) = popL es ++ [((0, 0), 0)] := by
    unfold popL
    rw [hm, Nat.add_sub_cancel]
    apply List.ext_getElem
    · simp; omega
    · intro i hi1 hi2
      simp at hi1
      by_cases e : i = m
      · subst e; simp [hm]
      · rw [List.getElem_append_left (by simp; omega)]
        rw [List.getElem_set_ne (fun h => e h.symm)]
        simp
  rw [e3, flat_append, hm] at h6
  have h7 := ownsRow_pop (xs := flat (popL es)) (last := flat [((0, 0), 0)]) (by rw [flat_len, popL_len, hm]; rfl) h6
  have hpl : (popL es).length = m := by rw [popL_len, hm]; rfl
  have h8 := owns_keeps (N := fun b => b = g) h7 ((Keeps.refl (fun b => b = g) _).setCell (p := ⟨g, 1, none⟩) rfl (.slice (some ⟨r, 0, none⟩) m cap)) (fun b hb e => hgr (by simp [Value.ownBlock] at hb; omega))
  refine ⟨?_, by rw [hpl]; exact h8, fun e => hgr (by simp [Value.ownBlock] at e; exact e.symm)⟩
  refine blk_put1 (b := .slice (some ⟨r, 0, none⟩) es.length cap) ?_
  rw [Below.heap_setCell _ _ _ g hgr, Below.heap_setCell _ _ _ g hgr, Below.heap_setCell _ _ _ g hgr, Below.heap_setCell _ _ _ g hgr, Below.heap_setCell _ _ _ g hgr, Below.heap_setCell _ _ _ g hgr]
  exact h.blk
theorem HeapAt.alloc {w : World} {g : Nat} {fv lv : Value} {es : List ((Int × Int) × Int)} {p : Int} (h : HeapAt w g fv lv es p) (o : Obj) : HeapAt (w.alloc o) g fv lv es p := h.below ((Below.refl _ _).alloc (Nat.le_refl _) _)
theorem keeps_new {N : Nat → Prop} {a b : World} (h : Keeps N a b) {q : Addr} (hq : a.heap.size ≤ q.block) (u : Value) : Keeps N a (b.setCell q u) :=
  ⟨h.os, h.tape, h.output, by simp; exact h.size, fun k hk hn => (Below.heap_setCell b q u k (by omega)).trans (h.block k hk hn)⟩

/-- What a pop leaves: the least entry is handed out, the others stay. -/
def Popped (lt : ((Int × Int) × Int) → ((Int × Int) × Int) → Bool) (w : World) (g : Nat) (fv lv : Value) (es : List ((Int × Int) × Int)) (p : Int) (e : Ending) (w' : World) : Prop :=
  e = .returned (.tuple #[.agg #[.int .i64 (atE es 0).1.1, .int .i64 (atE es 0).1.2], .bool true]) ∧ ∃ lv' es', HeapAt w' g fv lv' es' p ∧ IsHeap lt es' ∧ es.Perm (atE es 0 :: es') ∧ Keeps (fun b => b = g ∨ lv.ownBlock = some b) w w' ∧ lv'.ownBlock = lv.ownBlock

set_option maxRecDepth 100000 in
theorem pop_none {w : World} {g : Nat} {fv lv : Value} {p : Int} (h : HeapAt w g fv lv [] p) :
    Calls Try.prog 32 #[.pointer (some ⟨g, 0, none⟩)] w fun e w' => e = .returned (.tuple #[.agg #[.int .i64 0, .int .i64 0], .bool false]) ∧ Below w.heap.size w w' := by
  obtain ⟨c0, c1, c2⟩ := h.cell
  obtain ⟨a, cap, rfl⟩ := h.form
  have hgl := h.lt
  have hg1 : ¬ g = w.heap.size := by omega
  clear h
  go_enter Try.func32, Try.ntmps32
  go_wp2_with fail
  refine bodyPost_ret (v := .tuple #[.agg #[.int .i64 0, .int .i64 0], .bool false]) (by simp [results, Try.results32, go_sem]) rfl ⟨rfl, ?_⟩
  exact ((Below.refl w.heap.size w).alloc (Nat.le_refl _) _).alloc (by simp) _

set_option maxRecDepth 100000 in
set_option maxHeartbeats 4000000 in
theorem pop_calls {fv : Value} {lt : ((Int × Int) × Int) → ((Int × Int) × Int) → Bool} (O : Ord lt) (B : BeforeIs fv lt) {w : World} {g : Nat} {lv : Value} {es : List ((Int × Int) × Int)} {p : Int} (h : HeapAt w g fv lv es p) (hh : IsHeap lt es) (h0 : 0 < es.length) (hlen : es.length ≤ 1000000) :
    Calls Try.prog 32 #[.pointer (some ⟨g, 0, none⟩)] w (Popped lt w g fv lv es p) := by
  obtain ⟨r, cap, rfl, hlc, hcm, hrg, hrl⟩ := h.form' h0
  unfold maxLen at hcm
  have B0 := Lib.hid ((Below.refl w.heap.size w).alloc (Nat.le_refl _) (.cells #[.int .i64 0, .int .i64 0] 48))
  have hbx0 : (w.alloc (.cells #[.int .i64 0, .int .i64 0] 48)).heap[w.heap.size]? = some (.cells #[.int .i64 0, .int .i64 0] 48 (0, 0)) := heap_alloc_new w _
  have H1 := h.below B0.out
  have hgl0 := h.lt
  have HGL := Lib.hid hgl0
  have HRL := Lib.hid hrl
  obtain ⟨w0, hw0⟩ : ∃ x, w.alloc (.cells #[.int .i64 0, .int .i64 0] 48) = x := ⟨_, rfl⟩
  rw [hw0] at B0 hbx0 H1
  obtain ⟨bx, hbx⟩ : ∃ x, w.heap.size = x := ⟨_, rfl⟩
  have HBX := Lib.hid hbx
  rw [hbx] at hbx0 hrl hgl0
  have HX0 := Lib.hid hbx0
  have hbl : bx < w0.heap.size := (Array.getElem?_eq_some_iff.1 hbx0).1
  have hbg : ¬ bx = g := by omega
  have hbr : ¬ bx = r := by omega
  clear h
  obtain ⟨c0, c1, c2⟩ := H1.cell
  have hgl := H1.lt
  have f1 : w0.frozen? ⟨g, 1, none⟩ = false := by simp [World.frozen?, H1.blk]
  obtain ⟨m, hm⟩ : ∃ m, es.length = m + 1 := ⟨es.length - 1, by omega⟩
  obtain ⟨fi1, fi2, fi3⟩ := flat_at (es := es) (i := 0) h0
  obtain ⟨fj1, fj2, fj3⟩ := flat_at (es := es) (i := m) (by omega)
  have di1 := H1.row.cellAt 0 (by omega)
  have di2 := H1.row.cellAt 1 (by omega)
  have di3 := H1.row.cellAt 2 (by omega)
  have dj1 := H1.row.cellAt (m * 3) (by omega)
  have dj2 := H1.row.cellAt (m * 3 + 1) (by omega)
  have dj3 := H1.row.cellAt (m * 3 + 2) (by omega)
  rw [show (flat es)[0]? = _ from fi1] at di1
  rw [show (flat es)[1]? = _ from fi2] at di2
  rw [show (flat es)[2]? = _ from fi3] at di3
  rw [fj1] at dj1
  rw [fj2] at dj2
  rw [fj3] at dj3
  have z1 := H1.row.frozenAt 0
  have z2 := H1.row.frozenAt 1
  have z3 := H1.row.frozenAt 2
  have z4 := H1.row.frozenAt (m * 3)
  have z5 := H1.row.frozenAt (m * 3 + 1)
  have z6 := H1.row.frozenAt (m * 3 + 2)
  rw [hm] at c1 hlc hlen
  have H0 := Lib.hid H1
  have HM := Lib.hid hm
  obtain ⟨x1, hx1⟩ : ∃ x, (atE es 0).1.1 = x := ⟨_, rfl⟩
  obtain ⟨x2, hx2⟩ : ∃ x, (atE es 0).1.2 = x := ⟨_, rfl⟩
  obtain ⟨x3, hx3⟩ : ∃ x, (atE es 0).2 = x := ⟨_, rfl⟩
  obtain ⟨y1, hy1⟩ : ∃ x, (atE es m).1.1 = x := ⟨_, rfl⟩
  obtain ⟨y2, hy2⟩ : ∃ x, (atE es m).1.2 = x := ⟨_, rfl⟩
  obtain ⟨y3, hy3⟩ : ∃ x, (atE es m).2 = x := ⟨_, rfl⟩
  rw [hx1] at di1
  rw [hx2] at di2
  rw [hx3] at di3
  rw [hy1] at dj1
  rw [hy2] at dj2
  rw [hy3] at dj3
  have X1 := Lib.hid hx1
  have X2 := Lib.hid hx2
  have X3 := Lib.hid hx3
  have Y1 := Lib.hid hy1
  have Y2 := Lib.hid hy2
  have Y3 := Lib.hid hy3
  have hwr : ¬ r = w0.heap.size := by have := B0.out.size; omega
  have hwg : ¬ g = w0.heap.size := by omega
  have hrl0 : r < w0.heap.size := by have := B0.out.size; omega
  have HGL2 := Lib.hid hgl
  clear H1 hm fi1 fi2 fi3 fj1 fj2 fj3 c0 c2 hx1 hx2 hx3 hy1 hy2 hy3 h0 hbx0
  have tz : ((m : Int) + 1 == 0) = false := beq_eq_false_iff_ne.2 (by omega)
  have bm : (m : Int) < (m : Int) + 1 := by omega
  have bm0 : (0 : Int) ≤ (m : Int) := by omega
  have HP := Lib.hid (heap_popped H0.out HM.out)
  rw [Y1.out, Y2.out, Y3.out] at HP
  have HL : Hid ((popL es).length = m) := Lib.hid (by rw [popL_len, HM.out]; rfl)
  by_cases hm0 : m = 0
  · subst hm0
    obtain rfl : x1 = y1 := X1.out.symm.trans Y1.out
    obtain rfl : x2 = y2 := X2.out.symm.trans Y2.out
    obtain rfl : x3 = y3 := X3.out.symm.trans Y3.out
    simp only [Nat.zero_mul, Nat.zero_add] at HP
    go_enter Try.func32, Try.ntmps32
    go_wp2_with fail
    go_region
    go_wp2_with fail
    go_region
    go_wp2_with fail
    have HQ := Lib.hid (((HP.out.1.alloc (.cells #[.int .i64 x1, .int .i64 x2, .int .i64 x3] 87)).drewN 1).drewN 1)
    have hbx2 : w0.heap.size ≠ r := fun e => hwr e.symm
    have cb1 : ((((((((w0.setCell ⟨r, 0, none⟩ (.int .i64 x1)).setCell ⟨r, 1, none⟩ (.int .i64 x2)).setCell ⟨r, 2, none⟩ (.int .i64 x3)).setCell ⟨r, 0, none⟩ (.int .i64 0)).setCell ⟨r, 1, none⟩ (.int .i64 0)).setCell ⟨r, 2, none⟩ (.int .i64 0)).setCell ⟨g, 1, none⟩ (.slice (some ⟨r, 0, none⟩) 0 cap)).alloc (.cells #[.int .i64 x1, .int .i64 x2, .int .i64 x3] 87)).cell? ⟨w0.heap.size, 0, none⟩ = some (.int .i64 x1) := by go_simp
    have cb2 : ((((((((w0.setCell ⟨r, 0, none⟩ (.int .i64 x1)).setCell ⟨r, 1, none⟩ (.int .i64 x2)).setCell ⟨r, 2, none⟩ (.int .i64 x3)).setCell ⟨r, 0, none⟩ (.int .i64 0)).setCell ⟨r, 1, none⟩ (.int .i64 0)).setCell ⟨r, 2, none⟩ (.int .i64 0)).setCell ⟨g, 1, none⟩ (.slice (some ⟨r, 0, none⟩) 0 cap)).alloc (.cells #[.int .i64 x1, .int .i64 x2, .int .i64 x3] 87)).cell? ⟨w0.heap.size, 1, none⟩ = some (.int .i64 x2) := by go_simp
    have CB1 := Lib.hid cb1
    have CB2 := Lib.hid cb2
    have KK := Lib.hid (((HP.out.2.alloc (.cells #[.int .i64 x1, .int .i64 x2, .int .i64 x3] 87)).drewN 1).drewN 1)
    have HBW : Hid (((((((((w0.setCell ⟨r, 0, none⟩ (.int .i64 x1)).setCell ⟨r, 1, none⟩ (.int .i64 x2)).setCell ⟨r, 2, none⟩ (.int .i64 x3)).setCell ⟨r, 0, none⟩ (.int .i64 0)).setCell ⟨r, 1, none⟩ (.int .i64 0)).setCell ⟨r, 2, none⟩ (.int .i64 0)).setCell ⟨g, 1, none⟩ (.slice (some ⟨r, 0, none⟩) 0 cap)).alloc (.cells #[.int .i64 x1, .int .i64 x2, .int .i64 x3] 87)).heap[bx]? = some (.cells #[.int .i64 0, .int .i64 0] 48 (0, 0))) := Lib.hid (by
      rw [Below.heap_alloc _ _ bx (by simp; omega)]
      rw [Below.heap_setCell _ _ _ bx hbg, Below.heap_setCell _ _ _ bx hbr, Below.heap_setCell _ _ _ bx hbr, Below.heap_setCell _ _ _ bx hbr, Below.heap_setCell _ _ _ bx hbr, Below.heap_setCell _ _ _ bx hbr, Below.heap_setCell _ _ _ bx hbr]
      exact HX0.out)
    have hs : ((((((((w0.setCell ⟨r, 0, none⟩ (.int .i64 x1)).setCell ⟨r, 1, none⟩ (.int .i64 x2)).setCell ⟨r, 2, none⟩ (.int .i64 x3)).setCell ⟨r, 0, none⟩ (.int .i64 0)).setCell ⟨r, 1, none⟩ (.int .i64 0)).setCell ⟨r, 2, none⟩ (.int .i64 0)).setCell ⟨g, 1, none⟩ (.slice (some ⟨r, 0, none⟩) 0 cap)).alloc (.cells #[.int .i64 x1, .int .i64 x2, .int .i64 x3] 87)).heap.size = w0.heap.size + 1 := by simp
    have HS := Lib.hid hs
    clear cb1 cb2 hs c1 di1 di2 di3 dj1 dj2 dj3 z1 z2 z3 z4 z5 z6 f1 HP hw0
    generalize World.alloc _ _ = W at *
    have c9 : W.drew.drew.cell? ⟨g, 1, none⟩ = some (.slice (some ⟨r, 0, none⟩) 0 cap) := HQ.out.cell.2.1
    refine (down_empty c9).mono ?_
    rintro e w2 ⟨rfl, rfl⟩
    clear c9
    have q1 : W.drew.drew.cell? ⟨w0.heap.size, 0, none⟩ = some (.int .i64 x1) := CB1.out
    have q2 : W.drew.drew.cell? ⟨w0.heap.size, 1, none⟩ = some (.int .i64 x2) := CB2.out
    have hB2 : W.drew.drew.heap[bx]? = some (.cells #[.int .i64 0, .int .i64 0] 48 (0, 0)) := HBW.out
    have FF := Lib.hid (show ∃ lv' es', HeapAt W.drew.drew g fv lv' es' p ∧ IsHeap lt es' ∧ es.Perm (atE es 0 :: es') ∧ Keeps (fun b => b = g ∨ (Value.slice (some ⟨r, 0, none⟩) es.length cap).ownBlock = some b) w0 W.drew.drew ∧ lv'.ownBlock = (Value.slice (some ⟨r, 0, none⟩) es.length cap).ownBlock from
      ⟨_, popL es, HQ.out, (fun j h1 h2 => by rw [HL.out] at h2; omega), perm_pop (by rw [HM.out]; omega), KK.out.mono (fun b _ e => by simpa [Value.ownBlock] using e), rfl⟩)
    generalize W.drew.drew = w2 at *
    have r0 : w2.cell? ⟨bx, 0, none⟩ = some (.int .i64 0) := by rw [cell_of_row w2 bx 0 _ 48 (0, 0) hB2]; rfl
    have r1 : w2.cell? ⟨bx, 1, none⟩ = some (.int .i64 0) := by rw [cell_of_row w2 bx 1 _ 48 (0, 0) hB2]; rfl
    have g0 : w2.frozen? ⟨bx, 0, none⟩ = false := by simp [World.frozen?, hB2]
    have g1 : w2.frozen? ⟨bx, 1, none⟩ = false := by simp [World.frozen?, hB2]
    clear hB2
    go_wp2_with fail
    try simp only [Exit.inBlock, Exit.then]
    refine bodyPost_ret (v := .tuple #[.agg #[.int .i64 x1, .int .i64 x2], .bool true]) ?_ rfl ?_
    · simp [results, Try.results32, go_sem, r0, r1]
    refine ⟨by rw [X1.out, X2.out], ?_⟩
    obtain ⟨lv', es', hA, hB, hC, hD, hE⟩ := FF.out
    have kb : Keeps (fun b => b = bx) w2 ((w2.setCell ⟨bx, 0, none⟩ (.int .i64 x1)).setCell ⟨bx, 1, none⟩ (.int .i64 x2)) := ((Keeps.refl (fun b => b = bx) w2).setCell (p := ⟨bx, 0, none⟩) rfl _).setCell (p := ⟨bx, 1, none⟩) rfl _
    refine ⟨lv', es', hA.keeps kb (fun e => hbg e.symm) (fun b hb e => by rw [hE] at hb; simp [Value.ownBlock] at hb; omega), hB, hC, ?_, hE⟩
    exact keeps_new (q := ⟨bx, 1, none⟩) (keeps_new (q := ⟨bx, 0, none⟩) ((Keeps.of_below B0.out).trans hD) (by rw [HBX.out]; exact Nat.le_refl _) _) (by rw [HBX.out]; exact Nat.le_refl _) _
  · have n1 : ¬ m * 3 = 0 := by omega
    have n2 : ¬ m * 3 = 1 := by omega
    have n3 : ¬ m * 3 = 2 := by omega
    have n4 : ¬ m * 3 + 1 = 0 := by omega
    have n5 : ¬ m * 3 + 1 = 1 := by omega
    have n6 : ¬ m * 3 + 1 = 2 := by omega
    have n7 : ¬ m * 3 + 2 = 0 := by omega
    have n8 : ¬ m * 3 + 2 = 1 := by omega
    have n9 : ¬ m * 3 + 2 = 2 := by omega
    go_enter Try.func32, Try.ntmps32
    go_wp2_with fail
    go_region
    go_wp2_with fail
    go_region
    go_wp2_with fail
    have HQ := Lib.hid (((HP.out.1.alloc (.cells #[.int .i64 x1, .int .i64 x2, .int .i64 x3] 87)).drewN 1).drewN 1)
    have hbx2 : w0.heap.size ≠ r := fun e => hwr e.symm
    have cb1 : ((((((((w0.setCell ⟨r, 0, none⟩ (.int .i64 y1)).setCell ⟨r, 1, none⟩ (.int .i64 y2)).setCell ⟨r, 2, none⟩ (.int .i64 y3)).setCell ⟨r, m * 3, none⟩ (.int .i64 0)).setCell ⟨r, m * 3 + 1, none⟩ (.int .i64 0)).setCell ⟨r, m * 3 + 2, none⟩ (.int .i64 0)).setCell ⟨g, 1, none⟩ (.slice (some ⟨r, 0, none⟩) m cap)).alloc (.cells #[.int .i64 x1, .int .i64 x2, .int .i64 x3] 87)).cell? ⟨w0.heap.size, 0, none⟩ = some (.int .i64 x1) := by go_simp
    have cb2 : ((((((((w0.setCell ⟨r, 0, none⟩ (.int .i64 y1)).setCell ⟨r, 1, none⟩ (.int .i64 y2)).setCell ⟨r, 2, none⟩ (.int .i64 y3)).setCell ⟨r, m * 3, none⟩ (.int .i64 0)).setCell ⟨r, m * 3 + 1, none⟩ (.int .i64 0)).setCell ⟨r, m * 3 + 2, none⟩ (.int .i64 0)).setCell ⟨g, 1, none⟩ (.slice (some ⟨r, 0, none⟩) m cap)).alloc (.cells #[.int .i64 x1, .int .i64 x2, .int .i64 x3] 87)).cell? ⟨w0.heap.size, 1, none⟩ = some (.int .i64 x2) := by go_simp
    have CB1 := Lib.hid cb1
    have CB2 := Lib.hid cb2
    have KK := Lib.hid (((HP.out.2.alloc (.cells #[.int .i64 x1, .int .i64 x2, .int .i64 x3] 87)).drewN 1).drewN 1)
    have HBW : Hid (((((((((w0.setCell ⟨r, 0, none⟩ (.int .i64 y1)).setCell ⟨r, 1, none⟩ (.int .i64 y2)).setCell ⟨r, 2, none⟩ (.int .i64 y3)).setCell ⟨r, m * 3, none⟩ (.int .i64 0)).setCell ⟨r, m * 3 + 1, none⟩ (.int .i64 0)).setCell ⟨r, m * 3 + 2, none⟩ (.int .i64 0)).setCell ⟨g, 1, none⟩ (.slice (some ⟨r, 0, none⟩) m cap)).alloc (.cells #[.int .i64 x1, .int .i64 x2, .int .i64 x3] 87)).heap[bx]? = some (.cells #[.int .i64 0, .int .i64 0] 48 (0, 0))) := Lib.hid (by
      rw [Below.heap_alloc _ _ bx (by simp; omega)]
      rw [Below.heap_setCell _ _ _ bx hbg, Below.heap_setCell _ _ _ bx hbr, Below.heap_setCell _ _ _ bx hbr, Below.heap_setCell _ _ _ bx hbr, Below.heap_setCell _ _ _ bx hbr, Below.heap_setCell _ _ _ bx hbr, Below.heap_setCell _ _ _ bx hbr]
      exact HX0.out)
    have hs : ((((((((w0.setCell ⟨r, 0, none⟩ (.int .i64 y1)).setCell ⟨r, 1, none⟩ (.int .i64 y2)).setCell ⟨r, 2, none⟩ (.int .i64 y3)).setCell ⟨r, m * 3, none⟩ (.int .i64 0)).setCell ⟨r, m * 3 + 1, none⟩ (.int .i64 0)).setCell ⟨r, m * 3 + 2, none⟩ (.int .i64 0)).setCell ⟨g, 1, none⟩ (.slice (some ⟨r, 0, none⟩) m cap)).alloc (.cells #[.int .i64 x1, .int .i64 x2, .int .i64 x3] 87)).heap.size = w0.heap.size + 1 := by simp
    have HS := Lib.hid hs
    clear cb1 cb2 hs c1 di1 di2 di3 dj1 dj2 dj3 z1 z2 z3 z4 z5 z6 f1 HP hw0
    generalize World.alloc _ _ = W at *
    refine (down_calls O B HQ.out 0 (by rw [HL.out]; omega) (down_start hh) (by rw [HL.out]; omega)).mono ?_
    rintro e w2 ⟨rfl, es', hA, hB, hC, hD⟩
    have q1 : w2.cell? ⟨w0.heap.size, 0, none⟩ = some (.int .i64 x1) := by
      rw [World.cell?_of_block (a := ⟨w0.heap.size, 0, none⟩) (hD.block w0.heap.size (by show w0.heap.size < W.heap.size; rw [HS.out]; omega) (fun e => by simp [Value.ownBlock] at e; omega))]
      exact CB1.out
    have q2 : w2.cell? ⟨w0.heap.size, 1, none⟩ = some (.int .i64 x2) := by
      rw [World.cell?_of_block (a := ⟨w0.heap.size, 1, none⟩) (hD.block w0.heap.size (by show w0.heap.size < W.heap.size; rw [HS.out]; omega) (fun e => by simp [Value.ownBlock] at e; omega))]
      exact CB2.out
    have hB2 : w2.heap[bx]? = some (.cells #[.int .i64 0, .int .i64 0] 48 (0, 0)) := (hD.block bx (by show bx < W.heap.size; rw [HS.out]; omega) (fun e => by simp [Value.ownBlock] at e; omega)).trans HBW.out
    have FF := Lib.hid (show ∃ lv' es', HeapAt w2 g fv lv' es' p ∧ IsHeap lt es' ∧ es.Perm (atE es 0 :: es') ∧ Keeps (fun b => b = g ∨ (Value.slice (some ⟨r, 0, none⟩) es.length cap).ownBlock = some b) w0 w2 ∧ lv'.ownBlock = (Value.slice (some ⟨r, 0, none⟩) es.length cap).ownBlock from
      ⟨_, es', hA, hB, (perm_pop (by rw [HM.out]; omega)).trans (hC.symm.cons _), (KK.out.then hD (fun b _ e => .inr (by simpa [Value.ownBlock] using e))).mono (fun b _ e => by simpa [Value.ownBlock] using e), rfl⟩)
    clear hA hB hC hD
    have r0 : w2.cell? ⟨bx, 0, none⟩ = some (.int .i64 0) := by rw [cell_of_row w2 bx 0 _ 48 (0, 0) hB2]; rfl
    have r1 : w2.cell? ⟨bx, 1, none⟩ = some (.int .i64 0) := by rw [cell_of_row w2 bx 1 _ 48 (0, 0) hB2]; rfl
    have g0 : w2.frozen? ⟨bx, 0, none⟩ = false := by simp [World.frozen?, hB2]
    have g1 : w2.frozen? ⟨bx, 1, none⟩ = false := by simp [World.frozen?, hB2]
    clear hB2
    go_wp2_with fail
    try simp only [Exit.inBlock, Exit.then]
    refine bodyPost_ret (v := .tuple #[.agg #[.int .i64 x1, .int .i64 x2], .bool true]) ?_ rfl ?_
    · simp [results, Try.results32, go_sem, r0, r1]
    refine ⟨by rw [X1.out, X2.out], ?_⟩
    obtain ⟨lv', es', hA, hB, hC, hD, hE⟩ := FF.out
    have kb : Keeps (fun b => b = bx) w2 ((w2.setCell ⟨bx, 0, none⟩ (.int .i64 x1)).setCell ⟨bx, 1, none⟩ (.int .i64 x2)) := ((Keeps.refl (fun b => b = bx) w2).setCell (p := ⟨bx, 0, none⟩) rfl _).setCell (p := ⟨bx, 1, none⟩) rfl _
    refine ⟨lv', es', hA.keeps kb (fun e => hbg e.symm) (fun b hb e => by rw [hE] at hb; simp [Value.ownBlock] at hb; omega), hB, hC, ?_, hE⟩
    exact keeps_new (q := ⟨bx, 1, none⟩) (keeps_new (q := ⟨bx, 0, none⟩) ((Keeps.of_below B0.out).trans hD) (by rw [HBX.out]; exact Nat.le_refl _) _) (by rw [HBX.out]; exact Nat.le_refl _) _
end Go.Proofs.Ytkcpdkhdjgfigaa.Th
