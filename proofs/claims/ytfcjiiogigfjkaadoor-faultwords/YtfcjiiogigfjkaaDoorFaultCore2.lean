/- Package fault: New, Wrap, Of, At, Depth, by their contracts, over chains of faults. -/
import Derived.Test.YtfcjiiogigfjkaaDoorFaultCore
namespace Go.Proofs.YtfcjiiogigfjkaaDoor
open Go.RowKit Go.Extern.Stop Go.Stop Go.Extern
set_option linter.unusedVariables false

theorem ErrType.ext {w w' : World} (h : ErrType w) (k : Ext w w') : ErrType w' := ErrType.below h (lt_of_cell h) k
theorem Chain.ext {w w' : World} {v : Value} {l : List (Int × Int × ByteArray)} (h : Chain w v l) (k : Ext w w') : Chain w' v l := h.below k

set_option maxHeartbeats 1000000 in
theorem of_fault (b : Nat) (t a : Int) (s : ByteArray) (u : Value) (w : World) (h : FaultAt w b t a s u) (hu : IsErr u) (hg : ErrType w) :
    Calls Tryd.prog 17 #[.iface 40 (.pointer (some ⟨b, 0, none⟩))] w fun e w' => e = .returned (.int .i64 t) ∧ Ext w w' := by
  go_enter Tryd.func17, Tryd.ntmps17
  go_wp2_with fail
  refine (first_fault b t a s u _ h hu hg).mono ?_
  rintro e w1 ⟨rfl, hx⟩
  have H := Lib.hid hx
  clear hx
  rcases hu with rfl | ⟨T, x, rfl⟩
  · go_wp2_with fail
    go_ret
    exact ⟨rfl, H.out.alloc _⟩
  · go_wp2_with fail
    go_ret
    exact ⟨rfl, H.out.alloc _⟩

theorem of_nil (w : World) :
    Calls Tryd.prog 17 #[.nilIface] w fun e w' => e = .returned (.int .i64 0) ∧ Ext w w' := by
  go_enter Tryd.func17, Tryd.ntmps17
  go_wp2_with fail
  refine (first_nil _).mono ?_
  rintro e w1 ⟨rfl, hx⟩
  have H := Lib.hid hx
  clear hx
  unfold noFault
  go_wp2_with fail
  refine (as_nil _ _).mono ?_
  rintro e w2 ⟨rfl, rfl⟩
  go_wp2_with fail
  go_ret
  exact ⟨rfl, (H.out.alloc _).alloc _⟩

set_option maxHeartbeats 1000000 in
theorem of_tag (n : Int) (w : World) (hg : ErrType w) :
    Calls Tryd.prog 17 #[.iface 23 (.int .i64 n)] w fun e w' => e = .returned (.int .i64 n) ∧ Ext w w' := by
  go_enter Tryd.func17, Tryd.ntmps17
  go_wp2_with fail
  refine (first_tag n _ hg).mono ?_
  rintro e w1 ⟨rfl, hx⟩
  have H := Lib.hid hx
  clear hx
  unfold noFault
  have hg2 := fun o o' => ((hg.ext H.out).alloc o).alloc o'
  go_wp2_with fail
  refine (as_tag n _ (.int .i64 0) _ (hg2 _ _) (by simp) (by simp)).mono ?_
  rintro e w2 ⟨rfl, rfl⟩
  go_wp2_with fail
  go_ret
  exact ⟨rfl, Ext.trans H.out (by unfold Ext; repeat (first | exact Below.refl _ _ | refine Below.alloc ?_ (by simp; try omega) _ | refine Below.setCell ?_ (by simp; try omega) _))⟩

set_option maxHeartbeats 1000000 in
theorem at_fault (b : Nat) (t a : Int) (s : ByteArray) (u : Value) (w : World) (h : FaultAt w b t a s u) (hu : IsErr u) (hg : ErrType w) :
    Calls Tryd.prog 18 #[.iface 40 (.pointer (some ⟨b, 0, none⟩))] w fun e w' => e = .returned (.int .i64 a) ∧ Ext w w' := by
  go_enter Tryd.func18, Tryd.ntmps18
  go_wp2_with fail
  refine (first_fault b t a s u _ h hu hg).mono ?_
  rintro e w1 ⟨rfl, hx⟩
  have H := Lib.hid hx
  clear hx
  rcases hu with rfl | ⟨T, x, rfl⟩
  · go_wp2_with fail
    go_ret
    exact ⟨rfl, H.out.alloc _⟩
  · go_wp2_with fail
    go_ret
    exact ⟨rfl, H.out.alloc _⟩
theorem at_nil (w : World) :
    Calls Tryd.prog 18 #[.nilIface] w fun e w' => e = .returned (.int .i64 (-1)) ∧ Ext w w' := by
  go_enter Tryd.func18, Tryd.ntmps18
  go_wp2_with fail
  refine (first_nil _).mono ?_
  rintro e w1 ⟨rfl, hx⟩
  have H := Lib.hid hx
  clear hx
  unfold noFault
  go_wp2_with fail
  go_ret
  exact ⟨rfl, H.out.alloc _⟩
theorem at_tag (n : Int) (w : World) (hg : ErrType w) :
    Calls Tryd.prog 18 #[.iface 23 (.int .i64 n)] w fun e w' => e = .returned (.int .i64 (-1)) ∧ Ext w w' := by
  go_enter Tryd.func18, Tryd.ntmps18
  go_wp2_with fail
  refine (first_tag n _ hg).mono ?_
  rintro e w1 ⟨rfl, hx⟩
  have H := Lib.hid hx
  clear hx
  unfold noFault
  go_wp2_with fail
  go_ret
  exact ⟨rfl, H.out.alloc _⟩

theorem new_calls (t a : Int) (s : ByteArray) (w : World) :
    Calls Tryd.prog 20 #[.int .i64 t, .int .i64 a, .string s] w fun e w' => e = .returned (.iface 40 (.pointer (some ⟨w.heap.size, 0, none⟩))) ∧ FaultAt w' w.heap.size t a s .nilIface ∧ Ext w w' := by
  go_enter Tryd.func20, Tryd.ntmps20
  go_wp2
  go_ret
  exact ⟨rfl, ⟨by simp, by simp, by simp, by simp⟩, (Ext.refl _).alloc _⟩

set_option maxHeartbeats 1000000 in
theorem wrap_fault (b : Nat) (t a : Int) (s : ByteArray) (u : Value) (at' : Int) (what : ByteArray) (w : World) (h : FaultAt w b t a s u) (hu : IsErr u) (hg : ErrType w) :
    Calls Tryd.prog 22 #[.iface 40 (.pointer (some ⟨b, 0, none⟩)), .int .i64 at', .string what] w fun e w' => ∃ g, e = .returned (.iface 40 (.pointer (some ⟨g, 0, none⟩))) ∧ w.heap.size ≤ g ∧ FaultAt w' g t at' what (.iface 40 (.pointer (some ⟨b, 0, none⟩))) ∧ Ext w w' := by
  go_enter Tryd.func22, Tryd.ntmps22
  go_wp2_with fail
  refine (of_fault b t a s u _ h hu hg).mono ?_
  rintro e w1 ⟨rfl, hx⟩
  have H := Lib.hid hx
  clear hx
  go_wp2_with fail
  go_ret
  exact ⟨w1.heap.size, rfl, H.out.size, ⟨by simp, by simp, by simp, by simp⟩, H.out.alloc _⟩

/-- The loop of Depth at a round's head: k faults are counted; the fault at hand is a copy in a block of the call's own. -/
def DepthRel (w0 : World) (l : List (Int × Int × ByteArray)) (n f ok : Value) (wr : World) : Prop :=
  ∃ k g : Nat, k ≤ l.length ∧ n = .int .i64 k ∧ f = .pointer (some ⟨g, 0, none⟩) ∧ ok = .bool (decide (k < l.length)) ∧ w0.heap.size ≤ g ∧ Ext w0 wr ∧
    ∃ t a s u, wr.heap[g]? = some (.cells #[.int .i64 t, .int .i64 a, .string s, u] 44 (0, 0)) ∧ IsErr u ∧ (k < l.length → Chain wr u (l.drop (k + 1)))

theorem cells_of_heap {w : World} {g : Nat} {t a : Int} {s : ByteArray} {u : Value} {T : TypeId} (h : w.heap[g]? = some (.cells #[.int .i64 t, .int .i64 a, .string s, u] T (0, 0))) :
    FaultAt w g t a s u ∧ (∀ i, w.frozen? ⟨g, i, none⟩ = false) :=
  ⟨⟨by simp [World.cell?, h], by simp [World.cell?, h], by simp [World.cell?, h], by simp [World.cell?, h]⟩, fun i => by simp [World.frozen?, h]⟩

theorem heap_set4 {w : World} {g : Nat} {T : TypeId} {x0 x1 x2 x3 y0 y1 y2 y3 : Value} (h : w.heap[g]? = some (.cells #[x0, x1, x2, x3] T (0, 0))) :
    ((((w.setCell ⟨g, 0, none⟩ y0).setCell ⟨g, 1, none⟩ y1).setCell ⟨g, 2, none⟩ y2).setCell ⟨g, 3, none⟩ y3).heap[g]? = some (.cells #[y0, y1, y2, y3] T (0, 0)) := by
  simp [World.setCell, Array.getElem?_modify, h]
theorem ext_set4 {w w' : World} {g : Nat} {y0 y1 y2 y3 : Value} (h : Ext w w') (hg : w.heap.size ≤ g) :
    Ext w ((((w'.setCell ⟨g, 0, none⟩ y0).setCell ⟨g, 1, none⟩ y1).setCell ⟨g, 2, none⟩ y2).setCell ⟨g, 3, none⟩ y3) :=
  (((Below.setCell h (p := ⟨g, 0, none⟩) hg _).setCell (p := ⟨g, 1, none⟩) hg _).setCell (p := ⟨g, 2, none⟩) hg _).setCell (p := ⟨g, 3, none⟩) hg _
theorem Chain.set4 {w : World} {g B : Nat} {y0 y1 y2 y3 : Value} {v : Value} {l : List (Int × Int × ByteArray)} {w0 : World} (h : Chain w0 v l) (hb : Ext w0 w) (hg : w0.heap.size ≤ g) :
    Chain ((((w.setCell ⟨g, 0, none⟩ y0).setCell ⟨g, 1, none⟩ y1).setCell ⟨g, 2, none⟩ y2).setCell ⟨g, 3, none⟩ y3) v l := h.ext (ext_set4 hb hg)
theorem heap_alloc_at (w : World) (o : Obj) : (w.alloc o).heap[w.heap.size]? = some o := heap_alloc_new w o
theorem Chain.nil_inv {w : World} {l : List (Int × Int × ByteArray)} (h : Chain w .nilIface l) : l = [] := by
  cases l with
  | nil => rfl
  | cons x l => obtain ⟨t, a, s⟩ := x; obtain ⟨b, u, hv, _⟩ := h; cases hv
theorem Chain.cons_inv {w : World} {T : TypeId} {x : Value} {l : List (Int × Int × ByteArray)} (h : Chain w (.iface T x) l) : ∃ t a s l' b u, l = (t, a, s) :: l' ∧ T = 40 ∧ x = .pointer (some ⟨b, 0, none⟩) ∧ FaultAt w b t a s u ∧ Chain w u l' := by
  cases l with
  | nil => cases h
  | cons y l =>
    obtain ⟨t, a, s⟩ := y
    obtain ⟨b, u, hv, hf, hc⟩ := Chain.head h
    cases hv
    exact ⟨t, a, s, l, b, u, rfl, rfl, rfl, hf, hc⟩
theorem heap_ext {w w' : World} (h : Ext w w') {g : Nat} (hg : g < w.heap.size) : w'.heap[g]? = w.heap[g]? := h.block g hg

set_option maxHeartbeats 2000000 in
theorem depth_chain (v : Value) (l : List (Int × Int × ByteArray)) (w : World) (hc : Chain w v l) (hl : l.length ≤ 1000000) (hg : ErrType w) :
    Calls Tryd.prog 19 #[v] w fun e w' => e = .returned (.int .i64 l.length) ∧ Ext w w' := by
  go_enter Tryd.func19, Tryd.ntmps19
  go_wp2_with fail
  cases l with
  | nil =>
    obtain rfl : v = .nilIface := hc
    refine (first_nil _).mono ?_
    rintro e w1 ⟨rfl, hx⟩
    have H := Lib.hid hx
    clear hx
    unfold noFault
    go_wp2_with fail
    refine wp_loop_rounds 1 ?_
    rw [rounds_succ]
    go_wp2_with fail
    go_ret
    exact ⟨rfl, H.out.alloc _⟩
  | cons x l0 =>
    obtain ⟨t, a, s⟩ := x
    obtain ⟨b, u, rfl, hf, hcu⟩ := hc.head
    have hu := hcu.isErr
    have LL := Lib.hid (show l0.length + 1 ≤ 1000000 from hl)
    clear hl
    refine (first_fault b t a s u _ hf hu hg).mono ?_
    rintro e w1 ⟨rfl, hx⟩
    have H := Lib.hid hx
    clear hx
    have HU := Lib.hid hu
    rcases hu with rfl | ⟨T, x, rfl⟩
    all_goals
      go_wp2_with fail
      go_loopw [3, 4, 5] (fun n f ok wr => DepthRel w ((t, a, s) :: l0) n f ok wr) (fun n _ _ _ => (l0.length + 1) - (intOf n).toNat)
      case atStart => exact ⟨0, w1.heap.size, Nat.zero_le _, rfl, rfl, rfl, H.out.size, H.out.alloc _, t, a, s, _, heap_alloc_at _ _, HU.out, fun _ => hcu.ext (H.out.alloc _)⟩
      case round =>
        obtain ⟨k, g, hk, rfl, rfl, rfl, hgB, hE, t', a', s', u', hh, hu', hch⟩ := hrel
        clear hcu hf
        simp only [List.length_cons] at hk hch
        have hkk : k ≤ 1000000 := Nat.le_trans hk LL.out
        obtain ⟨hfa, _⟩ := cells_of_heap hh
        have E0 := Lib.hid hE
        have HH := Lib.hid hh
        clear hE hh
        by_cases hlt : k < l0.length + 1
        · have hd : decide (k < l0.length + 1) = true := by simpa using hlt
          have C := Lib.hid (hch hlt)
          clear hch
          simp only [List.length_cons, hd]
          obtain ⟨d0, d1, d2, d3⟩ := hfa
          have HU2 := Lib.hid hu'
          rcases hu' with rfl | ⟨T', x', rfl⟩
          · have hlen : k + 1 = l0.length + 1 := by
              have := C.out.nil_inv
              have := congrArg List.length this
              simp at this; omega
            have K := Lib.hid hlen
            clear hlen
            go_wp2_with fail
            refine (first_nil _).mono ?_
            rintro e w3 ⟨rfl, hx⟩
            have H3 := Lib.hid hx
            clear hx
            have hc3 := cells_of_heap ((heap_ext H3.out (by simp)).trans (heap_alloc_at wr _))
            obtain ⟨⟨m0, m1, m2, m3⟩, mf⟩ := hc3
            unfold noFault
            go_wp2_with fail
            have hBw : w.heap.size ≤ wr.heap.size := E0.out.size
            have hE3 : Ext w w3 := Ext.trans (E0.out.alloc _) H3.out
            go_roundw
            case rel =>
              refine ⟨k + 1, wr.heap.size, by simp only [List.length_cons]; omega, by go_num, rfl, ?_, hBw, ext_set4 hE3 hBw, _, _, _, _, heap_set4 ((heap_ext H3.out (by simp)).trans (heap_alloc_at wr _)), .inl rfl, ?_⟩
              · simp only [List.length_cons]; rw [K.out]; simp
              · intro hh; simp only [List.length_cons] at hh; have := K.out; omega
            case measure => simp [intOf]; omega
          · obtain ⟨t2, a2, s2, l2, b2, u2, hl2, rfl, rfl, hf2, hc2⟩ := C.out.cons_inv
            have hlen : k + 1 < l0.length + 1 := by
              have := congrArg List.length hl2
              simp at this; omega
            have hd2 : ((t, a, s) :: l0).drop (k + 1 + 1) = l2 := by
              rw [← List.drop_drop, hl2]; rfl
            have D2 := Lib.hid hd2
            have hu2 := hc2.isErr
            clear hl2 hd2
            have F2 := Lib.hid hf2
            clear hf2
            go_wp2_with fail
            refine (first_fault b2 t2 a2 s2 u2 _ (F2.out.alloc _) hu2 ((hg.ext E0.out).alloc _)).mono ?_
            rintro e w3 ⟨rfl, hx⟩
            have H3 := Lib.hid hx
            clear hx
            have hc3 := cells_of_heap ((heap_ext H3.out (by simp)).trans (heap_alloc_at wr _))
            obtain ⟨⟨m0, m1, m2, m3⟩, mf⟩ := hc3
            have HU3 := Lib.hid hu2
            rcases hu2 with rfl | ⟨T3, x3, rfl⟩
            all_goals
              go_wp2_with fail
              have hBw : w.heap.size ≤ wr.heap.size := E0.out.size
              have hE3 : Ext w w3 := Ext.trans (E0.out.alloc _) H3.out
              go_roundw
              case rel =>
                refine ⟨k + 1, wr.heap.size, by simp only [List.length_cons]; omega, by go_num, rfl, ?_, hBw, ext_set4 hE3 hBw, _, _, _, _, heap_set4 ((heap_ext H3.out (by simp)).trans (heap_alloc_at wr _)), HU3.out, ?_⟩
                · simp only [List.length_cons]; rw [decide_eq_true hlen]
                · intro _; rw [D2.out]; exact hc2.ext (ext_set4 (Ext.trans ((Ext.refl _).alloc _) H3.out) (Nat.le_refl _))
              case measure => simp [intOf]; omega
        · have hd : decide (k < l0.length + 1) = false := by simpa using hlt
          simp only [List.length_cons, hd]
          have hke : k = l0.length + 1 := by omega
          have K := Lib.hid hke
          clear hke hch hfa
          go_wp2_with fail
          go_ret
          exact ⟨by rw [K.out]; rfl, E0.out⟩
end Go.Proofs.YtfcjiiogigfjkaaDoor
