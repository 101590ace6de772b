/- Contract of Pop. -/
import Derived.Test.YtfpocoaddmgakaaHp4
import Derived.Test.YtfpocoaddmgakaaHp5
import Derived.WalkSmall
namespace Go.Proofs.Ytfpocoaddmgakaa
open Go.RowKit
set_option linter.unusedVariables false
set_option linter.unusedSimpArgs false

def Nothing (w : World) (e : Ending) (w' : World) : Prop := e = .returned (.tuple #[]) ∧ w = w'
set_option maxRecDepth 100000 in
set_option maxHeartbeats 1000000 in
theorem down_empty {w : World} {g : Nat} {a : Option Addr} {cap : Nat} (c1 : w.cell? ⟨g, 1, none⟩ = some (.slice a 0 cap)) :
    Calls Try.prog 30 #[.pointer (some ⟨g, 0, none⟩), .int .i64 0] w (Nothing w) := by
  go_enter Try.func30, Try.ntmps30
  go_wp2_with fail
  go_loopw [1] (fun s wr => s = .int .i64 0 ∧ w = wr) (fun _ _ => 0)
  case atStart => exact ⟨rfl, rfl⟩
  case round =>
    obtain ⟨rfl, rfl⟩ := hrel
    obtain ⟨wm, hwm⟩ : ∃ x, x = w := ⟨w, rfl⟩
    rw [← hwm] at c1
    go_wp2_with fail
    go_loopw [4, 5] (fun s4 s5 wv => s4 = .int .i64 0 ∧ s5 = .int .i64 1 ∧ w = wv) (fun _ _ _ => 0)
    case atStart => exact ⟨rfl, rfl, rfl⟩
    case round =>
      obtain ⟨rfl, rfl, rfl⟩ := hrel
      subst hwm
      go_wp2_with fail
      go_end0
      exact ⟨rfl, rfl⟩

theorem pop_none {w : World} {g : Nat} {fv lv : Value} {p : Int} (h : HeapAt w g fv lv [] p) :
    Calls Try.prog 24 #[.pointer (some ⟨g, 0, none⟩)] w fun e w' => e = .returned (.tuple #[.int .i64 0, .bool false]) ∧ w = w' := by
  obtain ⟨c0, c1, c2⟩ := h.cell
  obtain ⟨a, cap, rfl⟩ := h.form
  clear h
  go_enter Try.func24, Try.ntmps24
  go_wp2_with fail
  go_ret2
  exact ⟨rfl, rfl⟩

theorem heap_popped {w : World} {g r cap m : Nat} {fv : Value} {es : List (Int × Int)} {p : Int} (h : HeapAt w g fv (.slice (some ⟨r, 0, none⟩) es.length cap) es p) (hm : es.length = m + 1) :
    HeapAt (((((w.setCell ⟨r, 0, none⟩ (.int .i64 (atE es m).1)).setCell ⟨r, 1, none⟩ (.int .i64 (atE es m).2)).setCell ⟨r, m * 2, none⟩ (.int .i64 0)).setCell ⟨r, m * 2 + 1, none⟩ (.int .i64 0)).setCell ⟨g, 1, none⟩ (.slice (some ⟨r, 0, none⟩) m cap)) g fv (.slice (some ⟨r, 0, none⟩) m cap) (popL es) p ∧
    Keeps (fun b => b = g ∨ r = b) w (((((w.setCell ⟨r, 0, none⟩ (.int .i64 (atE es m).1)).setCell ⟨r, 1, none⟩ (.int .i64 (atE es m).2)).setCell ⟨r, m * 2, none⟩ (.int .i64 0)).setCell ⟨r, m * 2 + 1, none⟩ (.int .i64 0)).setCell ⟨g, 1, none⟩ (.slice (some ⟨r, 0, none⟩) m cap)) := by
  have hgr : g ≠ r := fun e => h.ne (by simp [Value.ownBlock, e])
  have K4 := ((((Keeps.refl (fun b => b = g ∨ r = b) w).setCell (p := ⟨r, 0, none⟩) (.inr rfl) (.int .i64 (atE es m).1)).setCell (p := ⟨r, 1, none⟩) (.inr rfl) (.int .i64 (atE es m).2)).setCell (p := ⟨r, m * 2, none⟩) (.inr rfl) (.int .i64 0)).setCell (p := ⟨r, m * 2 + 1, none⟩) (.inr rfl) (.int .i64 0)
  refine ⟨?_, K4.setCell (p := ⟨g, 1, none⟩) (.inl rfl) _⟩
  have h1 := (h.row.stored 0 (.int .i64 (atE es m).1)).1
  have h2 := (h1.stored 1 (.int .i64 (atE es m).2)).1
  have h3 := (h2.stored (m * 2) (.int .i64 0)).1
  have h4 := (h3.stored (m * 2 + 1) (.int .i64 0)).1
  have e1 := flat_set (es := es) (i := 0) (atE es m) (by omega)
  rw [Nat.zero_mul, Nat.zero_add] at e1
  rw [e1] at h4
  have e2 := flat_set (es := es.set 0 (atE es m)) (i := m) (0, 0) (by simp; omega)
  rw [e2] at h4
  have e3 : (es.set 0 (atE es m)).set m (0, 0) = popL es ++ [(0, 0)] := by
    unfold popL
    rw [hm, Nat.add_sub_cancel]
    apply List.ext_getElem
    · simp; omega
    · intro i hi1 hi2
      simp at hi1
      by_cases e : i = m
      · subst e; simp [hm]
      · rw [List.getElem_append_left (by simp; omega)]
        rw [List.getElem_set_ne (fun h => e h.symm)]
        simp
  rw [e3, flat_append, hm] at h4
  have h5 := ownsRow_pop (xs := flat (popL es)) (last := flat [(0, 0)]) (by rw [flat_len, popL_len, hm]; rfl) h4
  have hpl : (popL es).length = m := by rw [popL_len, hm]; rfl
  have h6 := owns_keeps (N := fun b => b = g) h5 ((Keeps.refl (fun b => b = g) _).setCell (p := ⟨g, 1, none⟩) rfl (.slice (some ⟨r, 0, none⟩) m cap)) (fun b hb e => hgr (by simp [Value.ownBlock] at hb; omega))
  refine ⟨?_, by rw [hpl]; exact h6, fun e => hgr (by simp [Value.ownBlock] at e; exact e.symm)⟩
  refine blk_put1 (b := .slice (some ⟨r, 0, none⟩) es.length cap) ?_
  rw [Below.heap_setCell _ _ _ g hgr, Below.heap_setCell _ _ _ g hgr, Below.heap_setCell _ _ _ g hgr, Below.heap_setCell _ _ _ g hgr]
  exact h.blk
theorem HeapAt.alloc {w : World} {g : Nat} {fv lv : Value} {es : List (Int × Int)} {p : Int} (h : HeapAt w g fv lv es p) (o : Obj) : HeapAt (w.alloc o) g fv lv es p := h.below ((Below.refl _ _).alloc (Nat.le_refl _) _)

/-- What a pop leaves: the least entry is handed out, the others stay. -/
def Popped (lt : (Int × Int) → (Int × Int) → Bool) (w : World) (g : Nat) (fv lv : Value) (es : List (Int × Int)) (p : Int) (e : Ending) (w' : World) : Prop :=
  e = .returned (.tuple #[.int .i64 (atE es 0).1, .bool true]) ∧ ∃ lv' es', HeapAt w' g fv lv' es' p ∧ IsHeap lt es' ∧ es.Perm (atE es 0 :: es') ∧ Keeps (fun b => b = g ∨ lv.ownBlock = some b) w w' ∧ lv'.ownBlock = lv.ownBlock

set_option maxRecDepth 100000 in
set_option maxHeartbeats 4000000 in
theorem pop_calls {fv : Value} {lt : (Int × Int) → (Int × Int) → Bool} (O : Ord lt) (B : BeforeIs fv lt) {w : World} {g : Nat} {lv : Value} {es : List (Int × Int)} {p : Int} (h : HeapAt w g fv lv es p) (hh : IsHeap lt es) (h0 : 0 < es.length) (hlen : es.length ≤ 1000000) :
    Calls Try.prog 24 #[.pointer (some ⟨g, 0, none⟩)] w (Popped lt w g fv lv es p) := by
  obtain ⟨c0, c1, c2⟩ := h.cell
  obtain ⟨r, cap, rfl, hlc, hcm, hrg, hrl⟩ := h.form' h0
  unfold maxLen at hcm
  have hgl := h.lt
  have f1 : w.frozen? ⟨g, 1, none⟩ = false := by simp [World.frozen?, h.blk]
  obtain ⟨m, hm⟩ : ∃ m, es.length = m + 1 := ⟨es.length - 1, by omega⟩
  obtain ⟨fi1, fi2⟩ := flat_at (es := es) (i := 0) h0
  obtain ⟨fj1, fj2⟩ := flat_at (es := es) (i := m) (by omega)
  have di1 := h.row.cellAt 0 (by omega)
  have di2 := h.row.cellAt 1 (by omega)
  have dj1 := h.row.cellAt (m * 2) (by omega)
  have dj2 := h.row.cellAt (m * 2 + 1) (by omega)
  rw [show (flat es)[0]? = _ from fi1] at di1
  rw [show (flat es)[1]? = _ from fi2] at di2
  rw [fj1] at dj1
  rw [fj2] at dj2
  have z1 := h.row.frozenAt 0
  have z2 := h.row.frozenAt 1
  have z3 := h.row.frozenAt (m * 2)
  have z4 := h.row.frozenAt (m * 2 + 1)
  rw [hm] at c1 hlc hlen
  have H0 := Lib.hid h
  have HM := Lib.hid hm
  obtain ⟨x1, hx1⟩ : ∃ x, (atE es 0).1 = x := ⟨_, rfl⟩
  obtain ⟨x2, hx2⟩ : ∃ x, (atE es 0).2 = x := ⟨_, rfl⟩
  obtain ⟨y1, hy1⟩ : ∃ x, (atE es m).1 = x := ⟨_, rfl⟩
  obtain ⟨y2, hy2⟩ : ∃ x, (atE es m).2 = x := ⟨_, rfl⟩
  rw [hx1] at di1
  rw [hx2] at di2
  rw [hy1] at dj1
  rw [hy2] at dj2
  have X1 := Lib.hid hx1
  have X2 := Lib.hid hx2
  have Y1 := Lib.hid hy1
  have Y2 := Lib.hid hy2
  have hw0 : r ≠ w.heap.size := by omega
  have hg0 : g ≠ w.heap.size := by omega
  clear h hm fi1 fi2 fj1 fj2 c0 c2 hx1 hx2 hy1 hy2 h0
  have tz : ((m : Int) + 1 == 0) = false := beq_eq_false_iff_ne.2 (by omega)
  have bm : (m : Int) < (m : Int) + 1 := by omega
  have bm0 : (0 : Int) ≤ (m : Int) := by omega
  have HP := Lib.hid (heap_popped H0.out HM.out)
  rw [Y1.out, Y2.out] at HP
  have HL : Hid ((popL es).length = m) := Lib.hid (by rw [popL_len, HM.out]; rfl)
  by_cases hm0 : m = 0
  · subst hm0
    obtain rfl : x1 = y1 := X1.out.symm.trans Y1.out
    obtain rfl : x2 = y2 := X2.out.symm.trans Y2.out
    simp only [Nat.zero_mul, Nat.zero_add] at HP
    go_enter Try.func24, Try.ntmps24
    go_wp2_with fail
    go_region
    go_wp2_with fail
    go_region
    go_wp2_with fail
    have HQ := Lib.hid (((HP.out.1.alloc (.cells #[.int .i64 x1, .int .i64 x2] 59)).drewN 1).drewN 1)
    have hbx : w.heap.size ≠ r := fun e => by omega
    have cb1 : ((((((w.setCell ⟨r, 0, none⟩ (.int .i64 x1)).setCell ⟨r, 1, none⟩ (.int .i64 x2)).setCell ⟨r, 0, none⟩ (.int .i64 0)).setCell ⟨r, 1, none⟩ (.int .i64 0)).setCell ⟨g, 1, none⟩ (.slice (some ⟨r, 0, none⟩) 0 cap)).alloc (.cells #[.int .i64 x1, .int .i64 x2] 59)).cell? ⟨w.heap.size, 0, none⟩ = some (.int .i64 x1) := by go_simp
    have KK := Lib.hid (((HP.out.2.alloc (.cells #[.int .i64 x1, .int .i64 x2] 59)).drewN 1).drewN 1)
    clear c1 di1 di2 dj1 dj2 z1 z2 z3 z4 f1 HP
    generalize World.alloc _ _ = W at *
    have c9 : W.drew.drew.cell? ⟨g, 1, none⟩ = some (.slice (some ⟨r, 0, none⟩) 0 cap) := HQ.out.cell.2.1
    refine (down_empty c9).mono ?_
    rintro e w2 ⟨rfl, rfl⟩
    clear c9
    go_wp2_with fail
    go_ret2
    refine ⟨by rw [X1.out]; rfl, _, popL es, HQ.out, ?_, perm_pop (by rw [HM.out]; omega), KK.out.mono (fun b _ e => by simpa [Value.ownBlock] using e), rfl⟩
    intro j h1 h2
    rw [HL.out] at h2
    omega
  · have n1 : ¬ m * 2 = 0 := by omega
    have n2 : ¬ m * 2 = 1 := by omega
    have n3 : ¬ m * 2 + 1 = 0 := by omega
    have n4 : ¬ m * 2 + 1 = 1 := by omega
    go_enter Try.func24, Try.ntmps24
    go_wp2_with fail
    go_region
    go_wp2_with fail
    go_region
    go_wp2_with fail
    have HQ := Lib.hid (((HP.out.1.alloc (.cells #[.int .i64 x1, .int .i64 x2] 59)).drewN 1).drewN 1)
    have hbx : w.heap.size ≠ r := fun e => by omega
    have cb1 : ((((((w.setCell ⟨r, 0, none⟩ (.int .i64 y1)).setCell ⟨r, 1, none⟩ (.int .i64 y2)).setCell ⟨r, m * 2, none⟩ (.int .i64 0)).setCell ⟨r, m * 2 + 1, none⟩ (.int .i64 0)).setCell ⟨g, 1, none⟩ (.slice (some ⟨r, 0, none⟩) m cap)).alloc (.cells #[.int .i64 x1, .int .i64 x2] 59)).cell? ⟨w.heap.size, 0, none⟩ = some (.int .i64 x1) := by go_simp
    have CB := Lib.hid cb1
    have KK := Lib.hid (((HP.out.2.alloc (.cells #[.int .i64 x1, .int .i64 x2] 59)).drewN 1).drewN 1)
    have hs : ((((((w.setCell ⟨r, 0, none⟩ (.int .i64 y1)).setCell ⟨r, 1, none⟩ (.int .i64 y2)).setCell ⟨r, m * 2, none⟩ (.int .i64 0)).setCell ⟨r, m * 2 + 1, none⟩ (.int .i64 0)).setCell ⟨g, 1, none⟩ (.slice (some ⟨r, 0, none⟩) m cap)).alloc (.cells #[.int .i64 x1, .int .i64 x2] 59)).heap.size = w.heap.size + 1 := by simp
    have HS := Lib.hid hs
    clear cb1 hs c1 di1 di2 dj1 dj2 z1 z2 z3 z4 f1 HP
    generalize World.alloc _ _ = W at *
    refine (down_calls O B HQ.out 0 (by rw [HL.out]; omega) (down_start hh) (by rw [HL.out]; omega)).mono ?_
    rintro e w2 ⟨rfl, es', hA, hB, hC, hD⟩
    have c9 : w2.cell? ⟨w.heap.size, 0, none⟩ = some (.int .i64 x1) := by
      rw [World.cell?_of_block (a := ⟨w.heap.size, 0, none⟩) (hD.block w.heap.size (by show w.heap.size < W.heap.size; rw [HS.out]; omega) (fun e => by simp [Value.ownBlock] at e; omega))]
      exact CB.out
    have F := Lib.hid (show ∃ lv' es', HeapAt w2 g fv lv' es' p ∧ IsHeap lt es' ∧ es.Perm (atE es 0 :: es') ∧ Keeps (fun b => b = g ∨ (Value.slice (some ⟨r, 0, none⟩) es.length cap).ownBlock = some b) w w2 ∧ lv'.ownBlock = (Value.slice (some ⟨r, 0, none⟩) es.length cap).ownBlock from
      ⟨_, es', hA, hB, (perm_pop (by rw [HM.out]; omega)).trans (hC.symm.cons _), (KK.out.then hD (fun b _ e => .inr (by simpa [Value.ownBlock] using e))).mono (fun b _ e => by simpa [Value.ownBlock] using e), rfl⟩)
    clear hA hB hC hD
    go_wp2_with fail
    go_ret2
    exact ⟨by rw [X1.out]; rfl, F.out⟩
end Go.Proofs.Ytfpocoaddmgakaa
