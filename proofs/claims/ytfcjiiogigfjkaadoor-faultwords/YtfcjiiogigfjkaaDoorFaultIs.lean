/- errors.Is of a fault and its own tag. -/
import Derived.Test.YtfcjiiogigfjkaaDoorFaultCore2
namespace Go.Proofs.YtfcjiiogigfjkaaDoor
open Go.RowKit Go.Extern.Stop Go.Stop Go.Extern
set_option linter.unusedVariables false

theorem assertT (n : Int) (w : World) : (Instr.typeAssert (.iface 23 (.int .i64 n)) 31 23 true).run Tryd.prog w = .ok (.tuple #[.int .i64 n, .bool true]) w := by kernel_rfl

theorem field0 (t : Int) (y1 y2 y3 : Value) (w : World) : (Instr.field 44 (.agg #[.int .i64 t, y1, y2, y3]) 0).run Tryd.prog w = .ok (.int .i64 t) w := by kernel_rfl

set_option maxRecDepth 100000 in
set_option maxHeartbeats 1000000 in
theorem faultIs_calls (b : Nat) (t a : Int) (s : ByteArray) (u : Value) (n : Int) (w : World) (h : FaultAt w b t a s u) (hu : IsErr u) :
    Calls Tryd.prog 27 #[.pointer (some ⟨b, 0, none⟩), .iface 23 (.int .i64 n)] w fun e w' => e = .returned (.bool (n == t)) ∧ Ext w w' := by
  have aT := assertT
  have f0 := field0
  go_enter Tryd.func27, Tryd.ntmps27
  go_wp2_with fail
  refine (value_some b t a s u _ h hu).mono ?_
  rintro e w1 ⟨rfl, rfl⟩
  rcases hu with rfl | ⟨T, x, rfl⟩
  · go_wp2_with fail
    go_ret
    exact ⟨rfl, (Ext.refl _).alloc _⟩
  · go_wp2_with fail
    go_ret
    exact ⟨rfl, (Ext.refl _).alloc _⟩

namespace Rl
theorem methodComparable (h : Value) (w : World) : (Go.method 259 96 (.agg #[h]) "Comparable").run Tryd.prog w = .ok (97, .agg #[h]) w := by kernel_rfl
theorem methodIs (a : Addr) (w : World) : (Go.method 259 40 (.pointer (some a)) "Is").run Tryd.prog w = .ok (27, .pointer (some a)) w := by kernel_rfl
theorem hasIs (v : Value) (w : World) : (Instr.typeAssert (.iface 40 v) 31 98 true).run Tryd.prog w = .ok (.tuple #[.iface 40 v, .bool true]) w := run_typeAssert_hasB Tryd.underlying98 (by kernel_rfl) v _ w
theorem neFT (x y : Value) (w : World) : (binOp .eql 31 (.iface 40 x) (.iface 23 y)).run Tryd.prog w = .ok (.bool false) w := run_eql_iface_types 40 23 x y Tryd.underlying31 (by decide) w
theorem comparableT (w : World) : (callFunc 97 #[.agg #[.pointer (some ⟨6, 23, none⟩)]]).run Tryd.prog w = .ok (.value (.bool true)) w := by kernel_rfl
end Rl

set_option maxRecDepth 100000 in
set_option maxHeartbeats 2000000 in
theorem isl_hit (b : Nat) (t a : Int) (s : ByteArray) (u : Value) (w : World) (h : FaultAt w b t a s u) (hu : IsErr u) :
    Calls Tryd.prog 39 #[.iface 40 (.pointer (some ⟨b, 0, none⟩)), .iface 23 (.int .i64 t), .bool true] w fun e w' => e = .returned (.bool true) ∧ Ext w w' := by
  have f3 := Rl.methodIs
  have f4 := Rl.hasIs
  have f5 := Rl.neFT
  go_enter Tryd.func39, Tryd.ntmps39
  go_wp2_with fail
  refine wp_loop_rounds 1 ?_
  rw [rounds_succ]
  go_wp2_with fail
  refine (faultIs_calls b t a s u t _ h hu).mono ?_
  rintro e w1 ⟨rfl, hx⟩
  have H := Lib.hid hx
  clear hx
  have e0 : (t == t) = true := by simp
  rw [e0]
  go_wp2_with fail
  go_ret
  exact ⟨rfl, H.out⟩

set_option maxRecDepth 100000 in
set_option maxHeartbeats 2000000 in
theorem is_hit (b : Nat) (t a : Int) (s : ByteArray) (u : Value) (w : World) (h : FaultAt w b t a s u) (hu : IsErr u) :
    Calls Tryd.prog 23 #[.iface 40 (.pointer (some ⟨b, 0, none⟩)), .iface 23 (.int .i64 t)] w fun e w' => e = .returned (.bool true) ∧ Ext w w' := by
  have x7 := @run_callFunc_extern Tryd.prog 38 _ ReflectliteType.typeOf Tryd.func38 (by kernel_rfl) (by kernel_rfl) (by kernel_rfl) (by kernel_rfl)
  have f1 := Rl.typeOfT
  have f2 := Rl.methodComparable
  have f6 := Rl.comparableT
  go_enter Tryd.func23, Tryd.ntmps23
  go_wp2_with fail
  refine (isl_hit b t a s u _ h hu).mono ?_
  rintro e w1 ⟨rfl, hx⟩
  have H := Lib.hid hx
  clear hx
  go_wp2_with fail
  go_ret
  exact ⟨rfl, H.out⟩
end Go.Proofs.YtfcjiiogigfjkaaDoor
