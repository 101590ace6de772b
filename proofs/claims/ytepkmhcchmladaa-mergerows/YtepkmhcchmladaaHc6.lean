/- Contract of Pop, of cursors. Written by mkhc.py. -/
import Derived.Test.YtepkmhcchmladaaHc4
import Derived.Test.YtepkmhcchmladaaHc5
import Derived.Test.YtepkmhcchmladaaHp6
import Derived.WalkSmall
namespace Go.Proofs.Ytepkmhcchmladaa.Cu
open Go.RowKit
set_option linter.unusedVariables false
set_option linter.unusedSimpArgs false

def Nothing (w : World) (e : Ending) (w' : World) : Prop := e = .returned (.tuple #[]) ∧ w = w'
set_option maxRecDepth 100000 in
set_option maxHeartbeats 1000000 in
theorem down_empty {w : World} {g : Nat} {a : Option Addr} {cap : Nat} (c1 : w.cell? ⟨g, 1, none⟩ = some (.slice a 0 cap)) :
    Calls Try.prog 80 #[.pointer (some ⟨g, 0, none⟩), .int .i64 0] w (Nothing w) := by
  go_enter Try.func80, Try.ntmps80
  go_wp2_with fail
  go_loopw [1] (fun s wr => s = .int .i64 0 ∧ w = wr) (fun _ _ => 0)
  case atStart => exact ⟨rfl, rfl⟩
  case round =>
    obtain ⟨rfl, rfl⟩ := hrel
    obtain ⟨wm, hwm⟩ : ∃ x, x = w := ⟨w, rfl⟩
    rw [← hwm] at c1
    go_wp2_with fail
    go_loopw [4, 5] (fun s4 s5 wv => s4 = .int .i64 0 ∧ s5 = .int .i64 1 ∧ w = wv) (fun _ _ _ => 0)
    case atStart => exact ⟨rfl, rfl, rfl⟩
    case round =>
      obtain ⟨rfl, rfl, rfl⟩ := hrel
      subst hwm
      go_wp2_with fail
      go_end0
      exact ⟨rfl, rfl⟩
theorem pop_mem {es : List CE} (h : 0 < es.length) : ∀ e ∈ popL es, e ∈ es := fun e he => (perm_pop h).symm.subset (List.mem_cons_of_mem _ he)
theorem heap_popped {w : World} {g r cap m : Nat} {fv : Value} {es : List CE} {p : Int} (h : HeapAt w g fv (.slice (some ⟨r, 0, none⟩) es.length cap) es p) (hm : es.length = m + 1) :
    HeapAt (((((((((w.setCell ⟨r, 0, none⟩ (.pointer (atE es m).1.1.1)).setCell ⟨r, 1, none⟩ (.int .i64 (atE es m).1.1.2)).setCell ⟨r, 2, none⟩ (.slice (atE es m).1.2.1 (atE es m).1.2.2.1.length (atE es m).1.2.2.2)).setCell ⟨r, 3, none⟩ (.int .i64 (atE es m).2)).setCell ⟨r, m * 4, none⟩ (.pointer none)).setCell ⟨r, m * 4 + 1, none⟩ (.int .i64 0)).setCell ⟨r, m * 4 + 2, none⟩ (.slice none 0 0)).setCell ⟨r, m * 4 + 3, none⟩ (.int .i64 0)).setCell ⟨g, 1, none⟩ (.slice (some ⟨r, 0, none⟩) m cap)) g fv (.slice (some ⟨r, 0, none⟩) m cap) (popL es) p ∧
    Keeps (fun b => b = g ∨ r = b) w (((((((((w.setCell ⟨r, 0, none⟩ (.pointer (atE es m).1.1.1)).setCell ⟨r, 1, none⟩ (.int .i64 (atE es m).1.1.2)).setCell ⟨r, 2, none⟩ (.slice (atE es m).1.2.1 (atE es m).1.2.2.1.length (atE es m).1.2.2.2)).setCell ⟨r, 3, none⟩ (.int .i64 (atE es m).2)).setCell ⟨r, m * 4, none⟩ (.pointer none)).setCell ⟨r, m * 4 + 1, none⟩ (.int .i64 0)).setCell ⟨r, m * 4 + 2, none⟩ (.slice none 0 0)).setCell ⟨r, m * 4 + 3, none⟩ (.int .i64 0)).setCell ⟨g, 1, none⟩ (.slice (some ⟨r, 0, none⟩) m cap)) := by
  have hgr : g ≠ r := fun e => h.ne (by simp [Value.ownBlock, e])
  have K8 := (((((((((Keeps.refl (fun b => b = g ∨ r = b) w).setCell (p := ⟨r, 0, none⟩) (.inr rfl) (.pointer (atE es m).1.1.1)).setCell (p := ⟨r, 1, none⟩) (.inr rfl) (.int .i64 (atE es m).1.1.2)).setCell (p := ⟨r, 2, none⟩) (.inr rfl) (.slice (atE es m).1.2.1 (atE es m).1.2.2.1.length (atE es m).1.2.2.2)).setCell (p := ⟨r, 3, none⟩) (.inr rfl) (.int .i64 (atE es m).2)).setCell (p := ⟨r, m * 4, none⟩) (.inr rfl) (.pointer none)).setCell (p := ⟨r, m * 4 + 1, none⟩) (.inr rfl) (.int .i64 0)).setCell (p := ⟨r, m * 4 + 2, none⟩) (.inr rfl) (.slice none 0 0)).setCell (p := ⟨r, m * 4 + 3, none⟩) (.inr rfl) (.int .i64 0))
  have K9 := K8.setCell (p := ⟨g, 1, none⟩) (.inl rfl) (.slice (some ⟨r, 0, none⟩) m cap)
  refine ⟨?_, K9⟩
  have h0 := h.row
  have h1 := (h0.stored 0 (.pointer (atE es m).1.1.1)).1
  have h2 := (h1.stored 1 (.int .i64 (atE es m).1.1.2)).1
  have h3 := (h2.stored 2 (.slice (atE es m).1.2.1 (atE es m).1.2.2.1.length (atE es m).1.2.2.2)).1
  have h4 := (h3.stored 3 (.int .i64 (atE es m).2)).1
  have h5 := (h4.stored (m * 4) (.pointer none)).1
  have h6 := (h5.stored (m * 4 + 1) (.int .i64 0)).1
  have h7 := (h6.stored (m * 4 + 2) (.slice none 0 0)).1
  have h8 := (h7.stored (m * 4 + 3) (.int .i64 0)).1
  have e1 := flat_set (es := es) (i := 0) (atE es m) (by omega)
  rw [Nat.zero_mul, Nat.zero_add, Nat.zero_add, Nat.zero_add] at e1
  rw [e1] at h8
  have e2 := flat_set (es := es.set 0 (atE es m)) (i := m) (((none, 0), (none, [], 0)), 0) (by simp; omega)
  simp only [List.length_nil] at e2
  rw [e2] at h8
  have e3 : (es.set 0 (atE es m)).set m (((none, 0), (none, [], 0)), 0) = popL es ++ [(((none, 0), (none, [], 0)), 0)] := by
    unfold popL
    rw [hm, Nat.add_sub_cancel]
    apply List.ext_getElem
    · simp; omega
    · intro i hi1 hi2
      simp at hi1
      by_cases e : i = m
      · subst e; simp [hm]
      · rw [List.getElem_append_left (by simp; omega)]
        rw [List.getElem_set_ne (fun h => e h.symm)]
        simp
  rw [e3, flat_append, hm] at h8
  have h7 := ownsRow_pop (xs := flat (popL es)) (last := flat [(((none, 0), (none, [], 0)), 0)]) (by rw [flat_len, popL_len, hm]; rfl) h8
  have hpl : (popL es).length = m := by rw [popL_len, hm]; rfl
  have h9 := owns_keeps (N := fun b => b = g) h7 ((Keeps.refl (fun b => b = g) _).setCell (p := ⟨g, 1, none⟩) rfl (.slice (some ⟨r, 0, none⟩) m cap)) (fun b hb e => hgr (by simp [Value.ownBlock] at hb; omega))
  refine ⟨?_, by rw [hpl]; exact h9, fun e => hgr (by simp [Value.ownBlock] at e; exact e.symm), ?_⟩
  · refine blk_put1 (b := .slice (some ⟨r, 0, none⟩) es.length cap) ?_
    rw [Below.heap_setCell _ _ _ g hgr, Below.heap_setCell _ _ _ g hgr, Below.heap_setCell _ _ _ g hgr, Below.heap_setCell _ _ _ g hgr, Below.heap_setCell _ _ _ g hgr, Below.heap_setCell _ _ _ g hgr, Below.heap_setCell _ _ _ g hgr, Below.heap_setCell _ _ _ g hgr]
    exact h.blk
  · have := (h.rd.own (K9.mono (fun b _ hb => by rcases hb with e | e; exact .inl e; exact .inr (by simp [Value.ownBlock, e])))).sub (pop_mem (by omega))
    simpa [Value.ownBlock] using this
theorem HeapAt.alloc {w : World} {g : Nat} {fv lv : Value} {es : List CE} {p : Int} (h : HeapAt w g fv lv es p) (o : Obj) : HeapAt (w.alloc o) g fv lv es p := h.below ((Below.refl _ _).alloc (Nat.le_refl _) _)
theorem keeps_new {N : Nat → Prop} {a b : World} (h : Keeps N a b) {q : Addr} (hq : a.heap.size ≤ q.block) (u : Value) : Keeps N a (b.setCell q u) :=
  ⟨h.os, h.tape, h.output, by simp; exact h.size, fun k hk hn => (Below.heap_setCell b q u k (by omega)).trans (h.block k hk hn)⟩

/-- What a pop leaves: the least entry is handed out, the others stay. -/
def Popped (lt : CE → CE → Bool) (w : World) (g : Nat) (fv lv : Value) (es : List CE) (p : Int) (e : Ending) (w' : World) : Prop :=
  e = .returned (.tuple #[cuV (atE es 0).1, .bool true]) ∧ ∃ lv' es', HeapAt w' g fv lv' es' p ∧ IsHeap lt es' ∧ es.Perm (atE es 0 :: es') ∧ Keeps (fun b => b = g ∨ lv.ownBlock = some b) w w' ∧ lv'.ownBlock = lv.ownBlock

set_option maxRecDepth 100000 in
theorem pop_none {w : World} {g : Nat} {fv lv : Value} {p : Int} (h : HeapAt w g fv lv [] p) :
    Calls Try.prog 65 #[.pointer (some ⟨g, 0, none⟩)] w fun e w' => e = .returned (.tuple #[.agg #[.pointer none, .int .i64 0, .slice none 0 0], .bool false]) ∧ Below w.heap.size w w' := by
  obtain ⟨c0, c1, c2⟩ := h.cell
  obtain ⟨a, cap, rfl⟩ := h.form
  have hgl := h.lt
  have hg1 : ¬ g = w.heap.size := by omega
  clear h
  go_enter Try.func65, Try.ntmps65
  go_wp2_with fail
  refine bodyPost_ret (v := .tuple #[.agg #[.pointer none, .int .i64 0, .slice none 0 0], .bool false]) (by simp [results, Try.results65, go_sem]) rfl ⟨rfl, ?_⟩
  exact ((Below.refl w.heap.size w).alloc (Nat.le_refl _) _).alloc (by simp) _

set_option maxRecDepth 100000 in
set_option maxHeartbeats 8000000 in
theorem pop_calls {fv : Value} {lt : CE → CE → Bool} (O : Ord lt) (B : BeforeIs fv lt) {w : World} {g : Nat} {lv : Value} {es : List CE} {p : Int} (h : HeapAt w g fv lv es p) (hh : IsHeap lt es) (h0 : 0 < es.length) (hlen : es.length ≤ 1000000) :
    Calls Try.prog 65 #[.pointer (some ⟨g, 0, none⟩)] w (Popped lt w g fv lv es p) := by
  obtain ⟨r, cap, rfl, hlc, hcm, hrg, hrl⟩ := h.form' h0
  unfold maxLen at hcm
  have B0 := Lib.hid ((Below.refl w.heap.size w).alloc (Nat.le_refl _) (.cells #[.pointer none, .int .i64 0, .slice none 0 0] 90))
  have hbx0 : (w.alloc (.cells #[.pointer none, .int .i64 0, .slice none 0 0] 90)).heap[w.heap.size]? = some (.cells #[.pointer none, .int .i64 0, .slice none 0 0] 90 (0, 0)) := heap_alloc_new w _
  have H1 := h.below B0.out
  have hgl0 := h.lt
  have HGL := Lib.hid hgl0
  have HRL := Lib.hid hrl
  have EB : Hid (∀ e ∈ es, ∀ q, e.1.2.1 = some q → q.block < w.heap.size) := Lib.hid (fun e he q hq => (h.rd e he).2.2.2 q hq |>.1)
  obtain ⟨w0, hw0⟩ : ∃ x, w.alloc (.cells #[.pointer none, .int .i64 0, .slice none 0 0] 90) = x := ⟨_, rfl⟩
  rw [hw0] at B0 hbx0 H1
  obtain ⟨bx, hbx⟩ : ∃ x, w.heap.size = x := ⟨_, rfl⟩
  have HBX := Lib.hid hbx
  rw [hbx] at hbx0 hrl hgl0 EB
  have HX0 := Lib.hid hbx0
  have hbl : bx < w0.heap.size := (Array.getElem?_eq_some_iff.1 hbx0).1
  have hbg : ¬ bx = g := by omega
  have hbr : ¬ bx = r := by omega
  clear h
  obtain ⟨c0, c1, c2⟩ := H1.cell
  have hgl := H1.lt
  have f1 : w0.frozen? ⟨g, 1, none⟩ = false := by simp [World.frozen?, H1.blk]
  obtain ⟨m, hm⟩ : ∃ m, es.length = m + 1 := ⟨es.length - 1, by omega⟩
  obtain ⟨fi1, fi2, fi3, fi4⟩ := flat_at (es := es) (i := 0) h0
  obtain ⟨fj1, fj2, fj3, fj4⟩ := flat_at (es := es) (i := m) (by omega)
  have di1 := H1.row.cellAt 0 (by omega)
  have di2 := H1.row.cellAt 1 (by omega)
  have di3 := H1.row.cellAt 2 (by omega)
  have di4 := H1.row.cellAt 3 (by omega)
  have dj1 := H1.row.cellAt (m * 4) (by omega)
  have dj2 := H1.row.cellAt (m * 4 + 1) (by omega)
  have dj3 := H1.row.cellAt (m * 4 + 2) (by omega)
  have dj4 := H1.row.cellAt (m * 4 + 3) (by omega)
  rw [show (flat es)[0]? = _ from fi1] at di1
  rw [show (flat es)[1]? = _ from fi2] at di2
  rw [show (flat es)[2]? = _ from fi3] at di3
  rw [show (flat es)[3]? = _ from fi4] at di4
  rw [fj1] at dj1
  rw [fj2] at dj2
  rw [fj3] at dj3
  rw [fj4] at dj4
  have z1 := H1.row.frozenAt 0
  have z2 := H1.row.frozenAt 1
  have z3 := H1.row.frozenAt 2
  have z4 := H1.row.frozenAt 3
  have z5 := H1.row.frozenAt (m * 4)
  have z6 := H1.row.frozenAt (m * 4 + 1)
  have z7 := H1.row.frozenAt (m * 4 + 2)
  have z8 := H1.row.frozenAt (m * 4 + 3)
  rw [hm] at c1 hlc hlen
  have H0 := Lib.hid H1
  have HM := Lib.hid hm
  obtain ⟨x, hx⟩ : ∃ x, atE es 0 = x := ⟨_, rfl⟩
  obtain ⟨y, hy⟩ : ∃ y, atE es m = y := ⟨_, rfl⟩
  rw [hx] at di1 di2 di3 di4
  rw [hy] at dj1 dj2 dj3 dj4
  have HP := Lib.hid (heap_popped H0.out HM.out)
  rw [hy] at HP
  obtain ⟨⟨⟨x1, x2⟩, ⟨x3, xz, x4⟩⟩, x5⟩ := x
  obtain ⟨⟨⟨y1, y2⟩, ⟨y3, yz, y4⟩⟩, y5⟩ := y
  dsimp only at di1 di2 di3 di4 dj1 dj2 dj3 dj4 HP
  have EX := Lib.hid hx
  have EY := Lib.hid hy
  have hwr : ¬ r = w0.heap.size := by have := B0.out.size; omega
  have hwg : ¬ g = w0.heap.size := by omega
  have hrl0 : r < w0.heap.size := by have := B0.out.size; omega
  have HGL2 := Lib.hid hgl
  clear H1 hm fi1 fi2 fi3 fi4 fj1 fj2 fj3 fj4 c0 c2 hx hy h0 hbx0
  have tz : ((m : Int) + 1 == 0) = false := beq_eq_false_iff_ne.2 (by omega)
  have bm : (m : Int) < (m : Int) + 1 := by omega
  have bm0 : (0 : Int) ≤ (m : Int) := by omega
  have HL : Hid ((popL es).length = m) := Lib.hid (by rw [popL_len, HM.out]; rfl)
  by_cases hm0 : m = 0
  · subst hm0
    obtain ⟨rfl, rfl, rfl, rfl, rfl, rfl⟩ : x1 = y1 ∧ x2 = y2 ∧ x3 = y3 ∧ xz = yz ∧ x4 = y4 ∧ x5 = y5 := by
      have := EX.out.symm.trans EY.out
      simp only [Prod.mk.injEq] at this
      obtain ⟨⟨⟨a, b⟩, c, d, e⟩, f⟩ := this
      exact ⟨a, b, c, d, e, f⟩
    simp only [Nat.zero_mul, Nat.zero_add] at HP
    go_enter Try.func65, Try.ntmps65
    go_wp2_with fail
    go_region
    go_wp2_with fail
    go_region
    go_wp2_with fail
    have HQ := Lib.hid (((HP.out.1.alloc (.cells #[.pointer x1, .int .i64 x2, .slice x3 xz.length x4, .int .i64 x5] 111)).drewN 1).drewN 1)
    have hbx2 : w0.heap.size ≠ r := fun e => hwr e.symm
    have CB0 : Hid (((((((((((w0.setCell ⟨r, 0, none⟩ (.pointer x1)).setCell ⟨r, 1, none⟩ (.int .i64 x2)).setCell ⟨r, 2, none⟩ (.slice x3 xz.length x4)).setCell ⟨r, 3, none⟩ (.int .i64 x5)).setCell ⟨r, 0, none⟩ (.pointer none)).setCell ⟨r, 1, none⟩ (.int .i64 0)).setCell ⟨r, 2, none⟩ (.slice none 0 0)).setCell ⟨r, 3, none⟩ (.int .i64 0)).setCell ⟨g, 1, none⟩ (.slice (some ⟨r, 0, none⟩) 0 cap)).alloc (.cells #[.pointer x1, .int .i64 x2, .slice x3 xz.length x4, .int .i64 x5] 111)).cell? ⟨w0.heap.size, 0, none⟩ = some (.pointer x1)) := Lib.hid (by go_simp)
    have CB1 : Hid (((((((((((w0.setCell ⟨r, 0, none⟩ (.pointer x1)).setCell ⟨r, 1, none⟩ (.int .i64 x2)).setCell ⟨r, 2, none⟩ (.slice x3 xz.length x4)).setCell ⟨r, 3, none⟩ (.int .i64 x5)).setCell ⟨r, 0, none⟩ (.pointer none)).setCell ⟨r, 1, none⟩ (.int .i64 0)).setCell ⟨r, 2, none⟩ (.slice none 0 0)).setCell ⟨r, 3, none⟩ (.int .i64 0)).setCell ⟨g, 1, none⟩ (.slice (some ⟨r, 0, none⟩) 0 cap)).alloc (.cells #[.pointer x1, .int .i64 x2, .slice x3 xz.length x4, .int .i64 x5] 111)).cell? ⟨w0.heap.size, 1, none⟩ = some (.int .i64 x2)) := Lib.hid (by go_simp)
    have CB2 : Hid (((((((((((w0.setCell ⟨r, 0, none⟩ (.pointer x1)).setCell ⟨r, 1, none⟩ (.int .i64 x2)).setCell ⟨r, 2, none⟩ (.slice x3 xz.length x4)).setCell ⟨r, 3, none⟩ (.int .i64 x5)).setCell ⟨r, 0, none⟩ (.pointer none)).setCell ⟨r, 1, none⟩ (.int .i64 0)).setCell ⟨r, 2, none⟩ (.slice none 0 0)).setCell ⟨r, 3, none⟩ (.int .i64 0)).setCell ⟨g, 1, none⟩ (.slice (some ⟨r, 0, none⟩) 0 cap)).alloc (.cells #[.pointer x1, .int .i64 x2, .slice x3 xz.length x4, .int .i64 x5] 111)).cell? ⟨w0.heap.size, 2, none⟩ = some (.slice x3 xz.length x4)) := Lib.hid (by go_simp)
    have KK := Lib.hid (((HP.out.2.alloc (.cells #[.pointer x1, .int .i64 x2, .slice x3 xz.length x4, .int .i64 x5] 111)).drewN 1).drewN 1)
    have HBW : Hid (((((((((((w0.setCell ⟨r, 0, none⟩ (.pointer x1)).setCell ⟨r, 1, none⟩ (.int .i64 x2)).setCell ⟨r, 2, none⟩ (.slice x3 xz.length x4)).setCell ⟨r, 3, none⟩ (.int .i64 x5)).setCell ⟨r, 0, none⟩ (.pointer none)).setCell ⟨r, 1, none⟩ (.int .i64 0)).setCell ⟨r, 2, none⟩ (.slice none 0 0)).setCell ⟨r, 3, none⟩ (.int .i64 0)).setCell ⟨g, 1, none⟩ (.slice (some ⟨r, 0, none⟩) 0 cap)).alloc (.cells #[.pointer x1, .int .i64 x2, .slice x3 xz.length x4, .int .i64 x5] 111)).heap[bx]? = some (.cells #[.pointer none, .int .i64 0, .slice none 0 0] 90 (0, 0))) := Lib.hid (by
      rw [Below.heap_alloc _ _ bx (by simp; omega)]
      rw [Below.heap_setCell _ _ _ bx hbg, Below.heap_setCell _ _ _ bx hbr, Below.heap_setCell _ _ _ bx hbr, Below.heap_setCell _ _ _ bx hbr, Below.heap_setCell _ _ _ bx hbr, Below.heap_setCell _ _ _ bx hbr, Below.heap_setCell _ _ _ bx hbr, Below.heap_setCell _ _ _ bx hbr, Below.heap_setCell _ _ _ bx hbr]
      exact HX0.out)
    have HS : Hid (((((((((((w0.setCell ⟨r, 0, none⟩ (.pointer x1)).setCell ⟨r, 1, none⟩ (.int .i64 x2)).setCell ⟨r, 2, none⟩ (.slice x3 xz.length x4)).setCell ⟨r, 3, none⟩ (.int .i64 x5)).setCell ⟨r, 0, none⟩ (.pointer none)).setCell ⟨r, 1, none⟩ (.int .i64 0)).setCell ⟨r, 2, none⟩ (.slice none 0 0)).setCell ⟨r, 3, none⟩ (.int .i64 0)).setCell ⟨g, 1, none⟩ (.slice (some ⟨r, 0, none⟩) 0 cap)).alloc (.cells #[.pointer x1, .int .i64 x2, .slice x3 xz.length x4, .int .i64 x5] 111)).heap.size = w0.heap.size + 1) := Lib.hid (by simp)
    clear c1 di1 di2 di3 di4 dj1 dj2 dj3 dj4 z1 z2 z3 z4 z5 z6 z7 z8 f1 HP hw0
    generalize World.alloc _ _ = W at *
    have c9 : W.drew.drew.cell? ⟨g, 1, none⟩ = some (.slice (some ⟨r, 0, none⟩) 0 cap) := HQ.out.cell.2.1
    refine (down_empty c9).mono ?_
    rintro e w2 ⟨rfl, rfl⟩
    clear c9
    have q0 : W.drew.drew.cell? ⟨w0.heap.size, 0, none⟩ = some (.pointer x1) := CB0.out
    have q1 : W.drew.drew.cell? ⟨w0.heap.size, 1, none⟩ = some (.int .i64 x2) := CB1.out
    have q2 : W.drew.drew.cell? ⟨w0.heap.size, 2, none⟩ = some (.slice x3 xz.length x4) := CB2.out
    have hB2 : W.drew.drew.heap[bx]? = some (.cells #[.pointer none, .int .i64 0, .slice none 0 0] 90 (0, 0)) := HBW.out
    have FF := Lib.hid (show ∃ lv' es', HeapAt W.drew.drew g fv lv' es' p ∧ IsHeap lt es' ∧ es.Perm (atE es 0 :: es') ∧ Keeps (fun b => b = g ∨ (Value.slice (some ⟨r, 0, none⟩) es.length cap).ownBlock = some b) w0 W.drew.drew ∧ lv'.ownBlock = (Value.slice (some ⟨r, 0, none⟩) es.length cap).ownBlock from
      ⟨_, popL es, HQ.out, (fun j h1 h2 => by rw [HL.out] at h2; omega), perm_pop (by rw [HM.out]; omega), KK.out.mono (fun b _ e => by simpa [Value.ownBlock] using e), rfl⟩)
    generalize W.drew.drew = w2 at *
    have FX := FF.out
    clear FF
    have r0 : w2.cell? ⟨bx, 0, none⟩ = some (.pointer none) := by rw [cell_of_row w2 bx 0 _ 90 (0, 0) hB2]; rfl
    have r1 : w2.cell? ⟨bx, 1, none⟩ = some (.int .i64 0) := by rw [cell_of_row w2 bx 1 _ 90 (0, 0) hB2]; rfl
    have r2 : w2.cell? ⟨bx, 2, none⟩ = some (.slice none 0 0) := by rw [cell_of_row w2 bx 2 _ 90 (0, 0) hB2]; rfl
    have g0 : w2.frozen? ⟨bx, 0, none⟩ = false := by simp [World.frozen?, hB2]
    have g1 : w2.frozen? ⟨bx, 1, none⟩ = false := by simp [World.frozen?, hB2]
    have g2 : w2.frozen? ⟨bx, 2, none⟩ = false := by simp [World.frozen?, hB2]
    have FY := Lib.hid FX
    clear hB2 FX
    go_wp2_with fail
    try simp only [Exit.inBlock, Exit.then]
    refine bodyPost_ret (v := .tuple #[.agg #[.pointer x1, .int .i64 x2, .slice x3 xz.length x4], .bool true]) ?_ rfl ?_
    · simp [results, Try.results65, go_sem, r0, r1, r2]
    refine ⟨by rw [EX.out], ?_⟩
    obtain ⟨lv', es', hA, hB, hC, hD, hE⟩ := FY.out
    have kb : Keeps (fun b => b = bx) w2 (((w2.setCell ⟨bx, 0, none⟩ (.pointer x1)).setCell ⟨bx, 1, none⟩ (.int .i64 x2)).setCell ⟨bx, 2, none⟩ (.slice x3 xz.length x4)) := ((((Keeps.refl (fun b => b = bx) w2).setCell (p := ⟨bx, 0, none⟩) rfl (.pointer x1)).setCell (p := ⟨bx, 1, none⟩) rfl (.int .i64 x2)).setCell (p := ⟨bx, 2, none⟩) rfl (.slice x3 xz.length x4))
    refine ⟨lv', es', hA.keeps kb (fun e => hbg e.symm) (fun b hb e => by rw [hE] at hb; simp [Value.ownBlock] at hb; omega) (fun e he q hq e2 => by have := EB.out e (hC.symm.subset (List.mem_cons_of_mem _ he)) q hq; omega), hB, hC, ?_, hE⟩
    exact (keeps_new (q := ⟨bx, 2, none⟩) (keeps_new (q := ⟨bx, 1, none⟩) (keeps_new (q := ⟨bx, 0, none⟩) ((Keeps.of_below B0.out).trans hD) (by rw [HBX.out]; exact Nat.le_refl _) (.pointer x1)) (by rw [HBX.out]; exact Nat.le_refl _) (.int .i64 x2)) (by rw [HBX.out]; exact Nat.le_refl _) (.slice x3 xz.length x4))
  · have n1 : ¬ m * 4 = 0 := by omega
    have n2 : ¬ m * 4 = 1 := by omega
    have n3 : ¬ m * 4 = 2 := by omega
    have n4 : ¬ m * 4 = 3 := by omega
    have n5 : ¬ m * 4 + 1 = 0 := by omega
    have n6 : ¬ m * 4 + 1 = 1 := by omega
    have n7 : ¬ m * 4 + 1 = 2 := by omega
    have n8 : ¬ m * 4 + 1 = 3 := by omega
    have n9 : ¬ m * 4 + 2 = 0 := by omega
    have n10 : ¬ m * 4 + 2 = 1 := by omega
    have n11 : ¬ m * 4 + 2 = 2 := by omega
    have n12 : ¬ m * 4 + 2 = 3 := by omega
    have n13 : ¬ m * 4 + 3 = 0 := by omega
    have n14 : ¬ m * 4 + 3 = 1 := by omega
    have n15 : ¬ m * 4 + 3 = 2 := by omega
    have n16 : ¬ m * 4 + 3 = 3 := by omega
    go_enter Try.func65, Try.ntmps65
    go_wp2_with fail
    go_region
    go_wp2_with fail
    go_region
    go_wp2_with fail
    have HQ := Lib.hid (((HP.out.1.alloc (.cells #[.pointer x1, .int .i64 x2, .slice x3 xz.length x4, .int .i64 x5] 111)).drewN 1).drewN 1)
    have hbx2 : w0.heap.size ≠ r := fun e => hwr e.symm
    have CB0 : Hid (((((((((((w0.setCell ⟨r, 0, none⟩ (.pointer y1)).setCell ⟨r, 1, none⟩ (.int .i64 y2)).setCell ⟨r, 2, none⟩ (.slice y3 yz.length y4)).setCell ⟨r, 3, none⟩ (.int .i64 y5)).setCell ⟨r, m * 4, none⟩ (.pointer none)).setCell ⟨r, m * 4 + 1, none⟩ (.int .i64 0)).setCell ⟨r, m * 4 + 2, none⟩ (.slice none 0 0)).setCell ⟨r, m * 4 + 3, none⟩ (.int .i64 0)).setCell ⟨g, 1, none⟩ (.slice (some ⟨r, 0, none⟩) m cap)).alloc (.cells #[.pointer x1, .int .i64 x2, .slice x3 xz.length x4, .int .i64 x5] 111)).cell? ⟨w0.heap.size, 0, none⟩ = some (.pointer x1)) := Lib.hid (by go_simp)
    have CB1 : Hid (((((((((((w0.setCell ⟨r, 0, none⟩ (.pointer y1)).setCell ⟨r, 1, none⟩ (.int .i64 y2)).setCell ⟨r, 2, none⟩ (.slice y3 yz.length y4)).setCell ⟨r, 3, none⟩ (.int .i64 y5)).setCell ⟨r, m * 4, none⟩ (.pointer none)).setCell ⟨r, m * 4 + 1, none⟩ (.int .i64 0)).setCell ⟨r, m * 4 + 2, none⟩ (.slice none 0 0)).setCell ⟨r, m * 4 + 3, none⟩ (.int .i64 0)).setCell ⟨g, 1, none⟩ (.slice (some ⟨r, 0, none⟩) m cap)).alloc (.cells #[.pointer x1, .int .i64 x2, .slice x3 xz.length x4, .int .i64 x5] 111)).cell? ⟨w0.heap.size, 1, none⟩ = some (.int .i64 x2)) := Lib.hid (by go_simp)
    have CB2 : Hid (((((((((((w0.setCell ⟨r, 0, none⟩ (.pointer y1)).setCell ⟨r, 1, none⟩ (.int .i64 y2)).setCell ⟨r, 2, none⟩ (.slice y3 yz.length y4)).setCell ⟨r, 3, none⟩ (.int .i64 y5)).setCell ⟨r, m * 4, none⟩ (.pointer none)).setCell ⟨r, m * 4 + 1, none⟩ (.int .i64 0)).setCell ⟨r, m * 4 + 2, none⟩ (.slice none 0 0)).setCell ⟨r, m * 4 + 3, none⟩ (.int .i64 0)).setCell ⟨g, 1, none⟩ (.slice (some ⟨r, 0, none⟩) m cap)).alloc (.cells #[.pointer x1, .int .i64 x2, .slice x3 xz.length x4, .int .i64 x5] 111)).cell? ⟨w0.heap.size, 2, none⟩ = some (.slice x3 xz.length x4)) := Lib.hid (by go_simp)
    have KK := Lib.hid (((HP.out.2.alloc (.cells #[.pointer x1, .int .i64 x2, .slice x3 xz.length x4, .int .i64 x5] 111)).drewN 1).drewN 1)
    have HBW : Hid (((((((((((w0.setCell ⟨r, 0, none⟩ (.pointer y1)).setCell ⟨r, 1, none⟩ (.int .i64 y2)).setCell ⟨r, 2, none⟩ (.slice y3 yz.length y4)).setCell ⟨r, 3, none⟩ (.int .i64 y5)).setCell ⟨r, m * 4, none⟩ (.pointer none)).setCell ⟨r, m * 4 + 1, none⟩ (.int .i64 0)).setCell ⟨r, m * 4 + 2, none⟩ (.slice none 0 0)).setCell ⟨r, m * 4 + 3, none⟩ (.int .i64 0)).setCell ⟨g, 1, none⟩ (.slice (some ⟨r, 0, none⟩) m cap)).alloc (.cells #[.pointer x1, .int .i64 x2, .slice x3 xz.length x4, .int .i64 x5] 111)).heap[bx]? = some (.cells #[.pointer none, .int .i64 0, .slice none 0 0] 90 (0, 0))) := Lib.hid (by
      rw [Below.heap_alloc _ _ bx (by simp; omega)]
      rw [Below.heap_setCell _ _ _ bx hbg, Below.heap_setCell _ _ _ bx hbr, Below.heap_setCell _ _ _ bx hbr, Below.heap_setCell _ _ _ bx hbr, Below.heap_setCell _ _ _ bx hbr, Below.heap_setCell _ _ _ bx hbr, Below.heap_setCell _ _ _ bx hbr, Below.heap_setCell _ _ _ bx hbr, Below.heap_setCell _ _ _ bx hbr]
      exact HX0.out)
    have HS : Hid (((((((((((w0.setCell ⟨r, 0, none⟩ (.pointer y1)).setCell ⟨r, 1, none⟩ (.int .i64 y2)).setCell ⟨r, 2, none⟩ (.slice y3 yz.length y4)).setCell ⟨r, 3, none⟩ (.int .i64 y5)).setCell ⟨r, m * 4, none⟩ (.pointer none)).setCell ⟨r, m * 4 + 1, none⟩ (.int .i64 0)).setCell ⟨r, m * 4 + 2, none⟩ (.slice none 0 0)).setCell ⟨r, m * 4 + 3, none⟩ (.int .i64 0)).setCell ⟨g, 1, none⟩ (.slice (some ⟨r, 0, none⟩) m cap)).alloc (.cells #[.pointer x1, .int .i64 x2, .slice x3 xz.length x4, .int .i64 x5] 111)).heap.size = w0.heap.size + 1) := Lib.hid (by simp)
    clear c1 di1 di2 di3 di4 dj1 dj2 dj3 dj4 z1 z2 z3 z4 z5 z6 z7 z8 f1 HP hw0
    generalize World.alloc _ _ = W at *
    refine (down_calls O B HQ.out 0 (by rw [HL.out]; omega) (down_start hh) (by rw [HL.out]; omega)).mono ?_
    rintro e w2 ⟨rfl, es', hA, hB, hC, hD⟩
    have q0 : w2.cell? ⟨w0.heap.size, 0, none⟩ = some (.pointer x1) := by
      rw [World.cell?_of_block (a := ⟨w0.heap.size, 0, none⟩) (hD.block w0.heap.size (by show w0.heap.size < W.heap.size; rw [HS.out]; omega) (fun e => by simp [Value.ownBlock] at e; omega))]
      exact CB0.out
    have q1 : w2.cell? ⟨w0.heap.size, 1, none⟩ = some (.int .i64 x2) := by
      rw [World.cell?_of_block (a := ⟨w0.heap.size, 1, none⟩) (hD.block w0.heap.size (by show w0.heap.size < W.heap.size; rw [HS.out]; omega) (fun e => by simp [Value.ownBlock] at e; omega))]
      exact CB1.out
    have q2 : w2.cell? ⟨w0.heap.size, 2, none⟩ = some (.slice x3 xz.length x4) := by
      rw [World.cell?_of_block (a := ⟨w0.heap.size, 2, none⟩) (hD.block w0.heap.size (by show w0.heap.size < W.heap.size; rw [HS.out]; omega) (fun e => by simp [Value.ownBlock] at e; omega))]
      exact CB2.out
    have hB2 : w2.heap[bx]? = some (.cells #[.pointer none, .int .i64 0, .slice none 0 0] 90 (0, 0)) := (hD.block bx (by show bx < W.heap.size; rw [HS.out]; omega) (fun e => by simp [Value.ownBlock] at e; omega)).trans HBW.out
    have FF := Lib.hid (show ∃ lv' es', HeapAt w2 g fv lv' es' p ∧ IsHeap lt es' ∧ es.Perm (atE es 0 :: es') ∧ Keeps (fun b => b = g ∨ (Value.slice (some ⟨r, 0, none⟩) es.length cap).ownBlock = some b) w0 w2 ∧ lv'.ownBlock = (Value.slice (some ⟨r, 0, none⟩) es.length cap).ownBlock from
      ⟨_, es', hA, hB, (perm_pop (by rw [HM.out]; omega)).trans (hC.symm.cons _), (KK.out.then hD (fun b _ e => .inr (by simpa [Value.ownBlock] using e))).mono (fun b _ e => by simpa [Value.ownBlock] using e), rfl⟩)
    clear hA hB hC hD
    have FX := FF.out
    clear FF
    have r0 : w2.cell? ⟨bx, 0, none⟩ = some (.pointer none) := by rw [cell_of_row w2 bx 0 _ 90 (0, 0) hB2]; rfl
    have r1 : w2.cell? ⟨bx, 1, none⟩ = some (.int .i64 0) := by rw [cell_of_row w2 bx 1 _ 90 (0, 0) hB2]; rfl
    have r2 : w2.cell? ⟨bx, 2, none⟩ = some (.slice none 0 0) := by rw [cell_of_row w2 bx 2 _ 90 (0, 0) hB2]; rfl
    have g0 : w2.frozen? ⟨bx, 0, none⟩ = false := by simp [World.frozen?, hB2]
    have g1 : w2.frozen? ⟨bx, 1, none⟩ = false := by simp [World.frozen?, hB2]
    have g2 : w2.frozen? ⟨bx, 2, none⟩ = false := by simp [World.frozen?, hB2]
    have FY := Lib.hid FX
    clear hB2 FX
    go_wp2_with fail
    try simp only [Exit.inBlock, Exit.then]
    refine bodyPost_ret (v := .tuple #[.agg #[.pointer x1, .int .i64 x2, .slice x3 xz.length x4], .bool true]) ?_ rfl ?_
    · simp [results, Try.results65, go_sem, r0, r1, r2]
    refine ⟨by rw [EX.out], ?_⟩
    obtain ⟨lv', es', hA, hB, hC, hD, hE⟩ := FY.out
    have kb : Keeps (fun b => b = bx) w2 (((w2.setCell ⟨bx, 0, none⟩ (.pointer x1)).setCell ⟨bx, 1, none⟩ (.int .i64 x2)).setCell ⟨bx, 2, none⟩ (.slice x3 xz.length x4)) := ((((Keeps.refl (fun b => b = bx) w2).setCell (p := ⟨bx, 0, none⟩) rfl (.pointer x1)).setCell (p := ⟨bx, 1, none⟩) rfl (.int .i64 x2)).setCell (p := ⟨bx, 2, none⟩) rfl (.slice x3 xz.length x4))
    refine ⟨lv', es', hA.keeps kb (fun e => hbg e.symm) (fun b hb e => by rw [hE] at hb; simp [Value.ownBlock] at hb; omega) (fun e he q hq e2 => by have := EB.out e (hC.symm.subset (List.mem_cons_of_mem _ he)) q hq; omega), hB, hC, ?_, hE⟩
    exact (keeps_new (q := ⟨bx, 2, none⟩) (keeps_new (q := ⟨bx, 1, none⟩) (keeps_new (q := ⟨bx, 0, none⟩) ((Keeps.of_below B0.out).trans hD) (by rw [HBX.out]; exact Nat.le_refl _) (.pointer x1)) (by rw [HBX.out]; exact Nat.le_refl _) (.int .i64 x2)) (by rw [HBX.out]; exact Nat.le_refl _) (.slice x3 xz.length x4))
end Go.Proofs.Ytepkmhcchmladaa.Cu
