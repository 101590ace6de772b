/- Package fault: New, Wrap, Of, At, Depth, by their contracts, over chains of faults. -/
import Derived.Test.YtecijhaclbbccaaDoorFaultCore
namespace Go.Proofs.YtecijhaclbbccaaDoor
open Go.RowKit Go.Extern.Stop Go.Stop Go.Extern
set_option linter.unusedVariables false

theorem ErrType.ext {w w' : World} (h : ErrType w) (k : Ext w w') : ErrType w' := ErrType.below h (lt_of_cell h) k
theorem Chain.ext {w w' : World} {v : Value} {l : List (Int × Int × ByteArray)} (h : Chain w v l) (k : Ext w w') : Chain w' v l := h.below k

set_option maxHeartbeats 1000000 in
theorem of_fault (b : Nat) (t a : Int) (s : ByteArray) (u : Value) (w : World) (h : FaultAt w b t a s u) (hu : IsErr u) (hg : ErrType w) :
    Calls Tryd.prog 12 #[.iface 70 (.pointer (some ⟨b, 0, none⟩))] w fun e w' => e = .returned (.int .i64 t) ∧ Ext w w' := by
  go_enter Tryd.func12, Tryd.ntmps12
  go_wp2_with fail
  refine (first_fault b t a s u _ h hu hg).mono ?_
  rintro e w1 ⟨rfl, hx⟩
  have H := Lib.hid hx
  clear hx
  rcases hu with rfl | ⟨T, x, rfl⟩
  · go_wp2_with fail
    go_ret
    exact ⟨rfl, H.out.alloc _⟩
  · go_wp2_with fail
    go_ret
    exact ⟨rfl, H.out.alloc _⟩

theorem of_nil (w : World) :
    Calls Tryd.prog 12 #[.nilIface] w fun e w' => e = .returned (.int .i64 0) ∧ Ext w w' := by
  go_enter Tryd.func12, Tryd.ntmps12
  go_wp2_with fail
  refine (first_nil _).mono ?_
  rintro e w1 ⟨rfl, hx⟩
  have H := Lib.hid hx
  clear hx
  unfold noFault
  go_wp2_with fail
  refine (as_nil _ _).mono ?_
  rintro e w2 ⟨rfl, rfl⟩
  go_wp2_with fail
  go_ret
  exact ⟨rfl, (H.out.alloc _).alloc _⟩

set_option maxHeartbeats 1000000 in
theorem of_tag (n : Int) (w : World) (hg : ErrType w) :
    Calls Tryd.prog 12 #[.iface 39 (.int .i64 n)] w fun e w' => e = .returned (.int .i64 n) ∧ Ext w w' := by
  go_enter Tryd.func12, Tryd.ntmps12
  go_wp2_with fail
  refine (first_tag n _ hg).mono ?_
  rintro e w1 ⟨rfl, hx⟩
  have H := Lib.hid hx
  clear hx
  unfold noFault
  have hg2 := fun o o' => ((hg.ext H.out).alloc o).alloc o'
  go_wp2_with fail
  refine (as_tag n _ (.int .i64 0) _ (hg2 _ _) (by simp) (by simp)).mono ?_
  rintro e w2 ⟨rfl, rfl⟩
  go_wp2_with fail
  go_ret
  exact ⟨rfl, Ext.trans H.out (by unfold Ext; repeat (first | exact Below.refl _ _ | refine Below.alloc ?_ (by simp; try omega) _ | refine Below.setCell ?_ (by simp; try omega) _))⟩

set_option maxHeartbeats 1000000 in
theorem at_fault (b : Nat) (t a : Int) (s : ByteArray) (u : Value) (w : World) (h : FaultAt w b t a s u) (hu : IsErr u) (hg : ErrType w) :
    Calls Tryd.prog 13 #[.iface 70 (.pointer (some ⟨b, 0, none⟩))] w fun e w' => e = .returned (.int .i64 a) ∧ Ext w w' := by
  go_enter Tryd.func13, Tryd.ntmps13
  go_wp2_with fail
  refine (first_fault b t a s u _ h hu hg).mono ?_
  rintro e w1 ⟨rfl, hx⟩
  have H := Lib.hid hx
  clear hx
  rcases hu with rfl | ⟨T, x, rfl⟩
  · go_wp2_with fail
    go_ret
    exact ⟨rfl, H.out.alloc _⟩
  · go_wp2_with fail
    go_ret
    exact ⟨rfl, H.out.alloc _⟩
theorem at_nil (w : World) :
    Calls Tryd.prog 13 #[.nilIface] w fun e w' => e = .returned (.int .i64 (-1)) ∧ Ext w w' := by
  go_enter Tryd.func13, Tryd.ntmps13
  go_wp2_with fail
  refine (first_nil _).mono ?_
  rintro e w1 ⟨rfl, hx⟩
  have H := Lib.hid hx
  clear hx
  unfold noFault
  go_wp2_with fail
  go_ret
  exact ⟨rfl, H.out.alloc _⟩
theorem at_tag (n : Int) (w : World) (hg : ErrType w) :
    Calls Tryd.prog 13 #[.iface 39 (.int .i64 n)] w fun e w' => e = .returned (.int .i64 (-1)) ∧ Ext w w' := by
  go_enter Tryd.func13, Tryd.ntmps13
  go_wp2_with fail
  refine (first_tag n _ hg).mono ?_
  rintro e w1 ⟨rfl, hx⟩
  have H := Lib.hid hx
  clear hx
  unfold noFault
  go_wp2_with fail
  go_ret
  exact ⟨rfl, H.out.alloc _⟩

theorem new_calls (t a : Int) (s : ByteArray) (w : World) :
    Calls Tryd.prog 51 #[.int .i64 t, .int .i64 a, .string s] w fun e w' => e = .returned (.iface 70 (.pointer (some ⟨w.heap.size, 0, none⟩))) ∧ FaultAt w' w.heap.size t a s .nilIface ∧ Ext w w' := by
  go_enter Tryd.func51, Tryd.ntmps51
  go_wp2
  go_ret
  exact ⟨rfl, ⟨by simp, by simp, by simp, by simp⟩, (Ext.refl _).alloc _⟩
end Go.Proofs.YtecijhaclbbccaaDoor
