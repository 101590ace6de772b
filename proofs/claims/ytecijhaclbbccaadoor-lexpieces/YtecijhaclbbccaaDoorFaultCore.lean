/- Package fault: New, Wrap, Of, At, Depth, by their contracts, over chains of faults. -/
import Derived.Test.YtecijhaclbbccaaDoorFaultAs2
namespace Go.Proofs.YtecijhaclbbccaaDoor
open Go.RowKit Go.Extern.Stop Go.Stop Go.Extern
set_option linter.unusedVariables false

/-- A chain of faults in memory: the outermost first; each is a tag, a place, a text. -/
def Chain (w : World) : Value → List (Int × Int × ByteArray) → Prop
  | v, [] => v = .nilIface
  | v, (t, a, s) :: l => ∃ b u, v = .iface 70 (.pointer (some ⟨b, 0, none⟩)) ∧ b < w.heap.size ∧ w.cell? ⟨b, 0, none⟩ = some (.int .i64 t) ∧ w.cell? ⟨b, 1, none⟩ = some (.int .i64 a) ∧ w.cell? ⟨b, 2, none⟩ = some (.string s) ∧ w.cell? ⟨b, 3, none⟩ = some u ∧ Chain w u l

theorem Chain.below {w w' : World} {v : Value} {l : List (Int × Int × ByteArray)} (h : Chain w v l) (hb : Below w.heap.size w w') : Chain w' v l := by
  induction l generalizing v with
  | nil => exact h
  | cons x l ih =>
    obtain ⟨t, a, s⟩ := x
    obtain ⟨b, u, rfl, hlt, c0, c1, c2, c3, hc⟩ := h
    exact ⟨b, u, rfl, Nat.lt_of_lt_of_le hlt hb.size, by rw [hb.cell (by exact hlt)]; exact c0, by rw [hb.cell (by exact hlt)]; exact c1, by rw [hb.cell (by exact hlt)]; exact c2, by rw [hb.cell (by exact hlt)]; exact c3, ih hc⟩

/-- Nothing old has turned. -/
def Ext (w w' : World) : Prop := Below w.heap.size w w'
theorem Ext.refl (w : World) : Ext w w := Below.refl _ _
theorem Ext.trans {a b c : World} (h : Ext a b) (k : Ext b c) : Ext a c := Below.trans h (Below.mono k h.size)
theorem Ext.alloc {a b : World} (h : Ext a b) (o : Obj) : Ext a (b.alloc o) := Below.alloc h h.size o

/-- What an error's cell can hold here. -/
def IsErr (u : Value) : Prop := u = .nilIface ∨ ∃ T x, u = .iface T x
theorem Chain.isErr {w : World} {v : Value} {l : List (Int × Int × ByteArray)} (h : Chain w v l) : IsErr v := by
  cases l with
  | nil => exact .inl h
  | cons x l => obtain ⟨t, a, s⟩ := x; obtain ⟨b, u, rfl, _⟩ := h; exact .inr ⟨_, _, rfl⟩

/-- A fault in memory. -/
structure FaultAt (w : World) (b : Nat) (t a : Int) (s : ByteArray) (u : Value) : Prop where
  c0 : w.cell? ⟨b, 0, none⟩ = some (.int .i64 t)
  c1 : w.cell? ⟨b, 1, none⟩ = some (.int .i64 a)
  c2 : w.cell? ⟨b, 2, none⟩ = some (.string s)
  c3 : w.cell? ⟨b, 3, none⟩ = some u
theorem FaultAt.lt {w : World} {b : Nat} {t a : Int} {s : ByteArray} {u : Value} (h : FaultAt w b t a s u) : b < w.heap.size := lt_of_cell h.c0
theorem FaultAt.alloc {w : World} {b : Nat} {t a : Int} {s : ByteArray} {u : Value} (h : FaultAt w b t a s u) (o : Obj) : FaultAt (w.alloc o) b t a s u :=
  ⟨by rw [World.cell?_alloc_lt _ _ _ h.lt]; exact h.c0, by rw [World.cell?_alloc_lt _ _ _ h.lt]; exact h.c1, by rw [World.cell?_alloc_lt _ _ _ h.lt]; exact h.c2, by rw [World.cell?_alloc_lt _ _ _ h.lt]; exact h.c3⟩
theorem FaultAt.below {w w' : World} {B b : Nat} {t a : Int} {s : ByteArray} {u : Value} (h : FaultAt w b t a s u) (hB : b < B) (hb : Below B w w') : FaultAt w' b t a s u :=
  ⟨by rw [hb.cell (by exact hB)]; exact h.c0, by rw [hb.cell (by exact hB)]; exact h.c1, by rw [hb.cell (by exact hB)]; exact h.c2, by rw [hb.cell (by exact hB)]; exact h.c3⟩
theorem Chain.head {w : World} {v : Value} {t a : Int} {s : ByteArray} {l : List (Int × Int × ByteArray)} (h : Chain w v ((t, a, s) :: l)) : ∃ b u, v = .iface 70 (.pointer (some ⟨b, 0, none⟩)) ∧ FaultAt w b t a s u ∧ Chain w u l := by
  obtain ⟨b, u, hv, _, c0, c1, c2, c3, hc⟩ := h
  exact ⟨b, u, hv, ⟨c0, c1, c2, c3⟩, hc⟩
theorem Chain.mk {w : World} {b : Nat} {t a : Int} {s : ByteArray} {u : Value} {l : List (Int × Int × ByteArray)} (h : FaultAt w b t a s u) (hc : Chain w u l) : Chain w (.iface 70 (.pointer (some ⟨b, 0, none⟩))) ((t, a, s) :: l) :=
  ⟨b, u, rfl, h.lt, h.c0, h.c1, h.c2, h.c3, hc⟩

theorem value_some (b : Nat) (t a : Int) (s : ByteArray) (u : Value) (w : World) (h : FaultAt w b t a s u) (hu : IsErr u) :
    Calls Tryd.prog 36 #[.pointer (some ⟨b, 0, none⟩)] w fun e w' => e = .returned (.agg #[.int .i64 t, .int .i64 a, .string s, u]) ∧ w' = w.alloc (.cells #[.int .i64 t, .int .i64 a, .string s, u] 55) := by
  have g := fun o => (h.alloc o).c0
  have g1 := fun o => (h.alloc o).c1
  have g2 := fun o => (h.alloc o).c2
  have g3 := fun o => (h.alloc o).c3
  have hlt := h.lt
  have hne : b ≠ w.heap.size := Nat.ne_of_lt hlt
  rcases hu with rfl | ⟨T, x, rfl⟩
  · go_enter Tryd.func36, Tryd.ntmps36
    go_wp2
    exact bodyPost_ret (v := .agg #[.int .i64 t, .int .i64 a, .string s, .nilIface]) (by simp [results, Tryd.results36, go_sem]) rfl ⟨rfl, rfl⟩
  · go_enter Tryd.func36, Tryd.ntmps36
    go_wp2
    exact bodyPost_ret (v := .agg #[.int .i64 t, .int .i64 a, .string s, .iface T x]) (by simp [results, Tryd.results36, go_sem]) rfl ⟨rfl, rfl⟩

def noFault : Value := .agg #[.int .i64 0, .int .i64 0, .string ⟨#[]⟩, .nilIface]
theorem first_nil (w : World) :
    Calls Tryd.prog 22 #[.nilIface] w fun e w' => e = .returned (.tuple #[noFault, .bool false]) ∧ Ext w w' := by
  go_enter Tryd.func22, Tryd.ntmps22
  go_wp2_with (first | (go_at_call 23; refine (as_nil _ _).mono ?_; rintro e w' ⟨rfl, rfl⟩))
  exact bodyPost_ret (v := .tuple #[noFault, .bool false]) (by simp [results, Tryd.results22, go_sem, noFault]) rfl ⟨rfl, ((Ext.refl _).alloc _).alloc _⟩

set_option maxHeartbeats 1000000 in
theorem first_fault (b : Nat) (t a : Int) (s : ByteArray) (u : Value) (w : World) (h : FaultAt w b t a s u) (hu : IsErr u) (hg : ErrType w) :
    Calls Tryd.prog 22 #[.iface 70 (.pointer (some ⟨b, 0, none⟩))] w fun e w' => e = .returned (.tuple #[.agg #[.int .i64 t, .int .i64 a, .string s, u], .bool true]) ∧ Ext w w' := by
  have hg2 := fun o o' => (hg.alloc o).alloc o'
  have hlt := h.lt
  go_enter Tryd.func22, Tryd.ntmps22
  go_wp2_with fail
  refine (as_hit _ _ (.pointer none) _ (hg2 _ _) (by simp) (by simp)).mono ?_
  rintro e w' ⟨rfl, rfl⟩
  go_wp2_with fail
  refine (value_some b t a s u _ (h.below hlt (by repeat (first | exact Below.refl _ _ | refine Below.alloc ?_ (by simp; try omega) _ | refine Below.setCell ?_ (by simp; try omega) _))) hu).mono ?_
  rintro e w' ⟨rfl, rfl⟩
  rcases hu with rfl | ⟨T, x, rfl⟩
  · go_wp2_with fail
    exact bodyPost_ret (v := .tuple #[.agg #[.int .i64 t, .int .i64 a, .string s, .nilIface], .bool true]) (by simp [results, Tryd.results22, go_sem]) rfl ⟨rfl, (by repeat (first | exact Below.refl _ _ | refine Below.alloc ?_ (by simp; try omega) _ | refine Below.setCell ?_ (by simp; try omega) _))⟩
  · go_wp2_with fail
    exact bodyPost_ret (v := .tuple #[.agg #[.int .i64 t, .int .i64 a, .string s, .iface T x], .bool true]) (by simp [results, Tryd.results22, go_sem]) rfl ⟨rfl, (by repeat (first | exact Below.refl _ _ | refine Below.alloc ?_ (by simp; try omega) _ | refine Below.setCell ?_ (by simp; try omega) _))⟩

set_option maxHeartbeats 1000000 in
theorem first_tag (n : Int) (w : World) (hg : ErrType w) :
    Calls Tryd.prog 22 #[.iface 39 (.int .i64 n)] w fun e w' => e = .returned (.tuple #[noFault, .bool false]) ∧ Ext w w' := by
  have hg2 := fun o o' => (hg.alloc o).alloc o'
  go_enter Tryd.func22, Tryd.ntmps22
  go_wp2_with fail
  refine (as_miss n _ (.pointer none) _ (hg2 _ _) (by simp) (by simp)).mono ?_
  rintro e w' ⟨rfl, rfl⟩
  go_wp2_with fail
  exact bodyPost_ret (v := .tuple #[noFault, .bool false]) (by simp [results, Tryd.results22, go_sem, noFault]) rfl ⟨rfl, (by repeat (first | exact Below.refl _ _ | refine Below.alloc ?_ (by simp; try omega) _ | refine Below.setCell ?_ (by simp; try omega) _))⟩
end Go.Proofs.YtecijhaclbbccaaDoor
