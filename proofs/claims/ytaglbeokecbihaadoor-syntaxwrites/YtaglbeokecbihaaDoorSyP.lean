/- A store of a whole part, under a name that a walk does not open. Written by mksyk.py. -/
import Derived.Test.YtaglbeokecbihaaDoorSyI
namespace Go.Proofs.YtaglbeokecbihaaDoor
open Go.RowKit
set_option linter.unusedVariables false
set_option linter.unusedSimpArgs false

noncomputable def stM (p v : Value) : Sem Unit := Instr.storeAt 59 p v
theorem st_rule (p v : Value) : Instr.storeAt 59 p v = stM p v := rfl
noncomputable def put16 (w : World) (g : Nat) (r0 r1 r2 r3 r4 r5 r6 r7 r8 r9 r10 r11 r12 r13 r14 r15 : Value) : World := ((((((((((((((((w.setCell ⟨g, 0, none⟩ r0).setCell ⟨g, 1, none⟩ r1).setCell ⟨g, 2, none⟩ r2).setCell ⟨g, 3, none⟩ r3).setCell ⟨g, 4, none⟩ r4).setCell ⟨g, 5, none⟩ r5).setCell ⟨g, 6, none⟩ r6).setCell ⟨g, 7, none⟩ r7).setCell ⟨g, 8, none⟩ r8).setCell ⟨g, 9, none⟩ r9).setCell ⟨g, 10, none⟩ r10).setCell ⟨g, 11, none⟩ r11).setCell ⟨g, 12, none⟩ r12).setCell ⟨g, 13, none⟩ r13).setCell ⟨g, 14, none⟩ r14).setCell ⟨g, 15, none⟩ r15)
set_option maxRecDepth 100000 in
set_option maxHeartbeats 1000000 in
theorem st_run {w : World} {b : Nat} (j0 : Int) (j1 : ByteArray) (j2 : Option Addr) (l2 m2 : Nat) (j3 : Int) (j4 : Int) (j5 : ByteArray) (j6 : Int) (j7 : Int) (j8 : ByteArray) (j9 : Int) (j10 : ByteArray) (j11 : Int) (j12 : ByteArray) (j13 : Int) (j14 : Int) (j15 : Option Addr) (l15 m15 : Nat) (h : Box16 w b) : (stM (.pointer (some ⟨b, 0, none⟩)) (.agg #[.int .i64 j0, .string j1, .slice j2 l2 m2, .int .i64 j3, .int .i64 j4, .string j5, .int .i64 j6, .int .i64 j7, .string j8, .int .i64 j9, .string j10, .int .i64 j11, .string j12, .int .i64 j13, .int .i64 j14, .slice j15 l15 m15])).run Tryd.prog w = .ok () (put16 w b (.int .i64 j0) (.string j1) (.slice j2 l2 m2) (.int .i64 j3) (.int .i64 j4) (.string j5) (.int .i64 j6) (.int .i64 j7) (.string j8) (.int .i64 j9) (.string j10) (.int .i64 j11) (.string j12) (.int .i64 j13) (.int .i64 j14) (.slice j15 l15 m15)) := by
  obtain ⟨z0, z1, z2, z3, z4, z5, z6, z7, z8, z9, z10, z11, z12, z13, z14, z15, hz⟩ := h
  have d0 := cellAt (i := 0) hz rfl
  have d1 := cellAt (i := 1) hz rfl
  have d2 := cellAt (i := 2) hz rfl
  have d3 := cellAt (i := 3) hz rfl
  have d4 := cellAt (i := 4) hz rfl
  have d5 := cellAt (i := 5) hz rfl
  have d6 := cellAt (i := 6) hz rfl
  have d7 := cellAt (i := 7) hz rfl
  have d8 := cellAt (i := 8) hz rfl
  have d9 := cellAt (i := 9) hz rfl
  have d10 := cellAt (i := 10) hz rfl
  have d11 := cellAt (i := 11) hz rfl
  have d12 := cellAt (i := 12) hz rfl
  have d13 := cellAt (i := 13) hz rfl
  have d14 := cellAt (i := 14) hz rfl
  have d15 := cellAt (i := 15) hz rfl
  have fr : ∀ i, w.frozen? ⟨b, i, none⟩ = false := fun i => by simp only [World.frozen?, hz]; simp
  clear hz
  unfold stM put16
  go_simp
end Go.Proofs.YtaglbeokecbihaaDoor
