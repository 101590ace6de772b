/- Package fault: the text of a chain of faults, as (*Fault).Error writes it. -/
import Derived.Test.YtfcjiiogigfjkaaDoorFaultErr2
import Derived.Deep.LoopGhost
namespace Go.Proofs.YtfcjiiogigfjkaaDoor
open Go.RowKit Go.Extern.Stop Go.Stop Go.Extern
set_option linter.unusedVariables false

/-- (*Fault).Error at a round's head: 'before' is written, the fault x is at hand, 'todo' is to come. -/
def ErrRel (w : World) (L : List (Int × Int × ByteArray)) (k : Nat) (f : Value) (wr : World) : Prop :=
  ∃ before x todo b u, L = before ++ x :: todo ∧ k = todo.length ∧ f = .pointer (some ⟨b, 0, none⟩) ∧ FaultAt w b x.1 x.2.1 x.2.2 u ∧ Chain w u todo ∧
    IsB w.heap.size w.heap.size (headText before) wr ∧ Below w.heap.size w wr ∧ w.heap.size < wr.heap.size

theorem isB_new (w : World) : IsB w.heap.size w.heap.size [] (w.alloc (.cells #[.pointer none, .slice none 0 0] 139)) :=
  .inl ⟨Nat.le_refl _, .slice none 0 0, heap_alloc_at _ _, World.ownsRowF_nil _ _ _ _, by simp [Value.ownBlock]⟩

theorem assertF (p : Value) (w : World) : (Instr.typeAssert (.iface 40 p) 31 40 true).run Tryd.prog w = .ok (.tuple #[p, .bool true]) w := by kernel_rfl

set_option maxHeartbeats 4000000 in
theorem error_calls (b0 : Nat) (L : List (Int × Int × ByteArray)) (w : World) (hc : Chain w (.iface 40 (.pointer (some ⟨b0, 0, none⟩))) L) (hS : Sound L) (hL : L.length ≤ 1000) (hF : FW w) (hNG : 6 ≤ w.heap.size) :
    Calls Tryd.prog 84 #[.pointer (some ⟨b0, 0, none⟩)] w fun e w' => e = .returned (.string ⟨(errText L).toArray⟩) ∧ Ext w w' := by
  obtain ⟨t, a, s, l0, b, u, rfl, _, hx, hf, hcu⟩ := hc.cons_inv
  obtain rfl : b0 = b := by cases hx; rfl
  have aF := assertF
  go_enter Tryd.func84, Tryd.ntmps84
  go_wp2_with fail
  go_loopg [0] l0.length (fun k f wr => ErrRel w ((t, a, s) :: l0) k f wr)
  case atStart => exact ⟨[], (t, a, s), l0, b0, u, rfl, rfl, rfl, hf, hcu, isB_new w, (Below.refl _ _).alloc (Nat.le_refl _) _, by simp⟩
  case round =>
    obtain ⟨before, ⟨t1, a1, s1⟩, todo, b1, u1, hsp, hgk, rfl, hf1, hc1, hB1, hbel, hsz⟩ := hrel
    have hx1 := hS (t1, a1, s1) (by rw [hsp]; simp)
    have hhl := headText_length before (fun y hy => hS y (by rw [hsp]; simp [hy]))
    have hbl : before.length ≤ 1000 := by have := congrArg List.length hsp; simp at this hL; omega
    have A : Hid (((t, a, s) :: l0 = before ++ (t1, a1, s1) :: todo) ∧ gk = todo.length) := ⟨hsp, hgk⟩
    clear hsp hgk hf hcu hc
    have hu1 := hc1.isErr
    have hff := hf1.below hf1.lt hbel
    go_wp2_with fail
    refine (value_some b1 t1 a1 s1 u1 _ hff hu1).mono ?_
    rintro e w1 ⟨rfl, rfl⟩
    have HU := Lib.hid hu1
    have Bx : Below w.heap.size w ((wr.alloc (.cells #[.int .i64 t1, .int .i64 a1, .string s1, u1] 44)).alloc (.cells #[.int .i64 t1, .int .i64 a1, .string s1, u1] 44)) := (hbel.alloc (Nat.le_of_lt hsz) _).alloc (by simp; omega) _
    have Ix := isB_ext hB1 (((Ext.refl wr).alloc (.cells #[.int .i64 t1, .int .i64 a1, .string s1, u1] 44)).alloc (.cells #[.int .i64 t1, .int .i64 a1, .string s1, u1] 44))
    have FX := hF.below hNG Bx
    have hgx : ((wr.alloc (.cells #[.int .i64 t1, .int .i64 a1, .string s1, u1] 44)).alloc (.cells #[.int .i64 t1, .int .i64 a1, .string s1, u1] 44)).heap[wr.heap.size + 1]? = some (.cells #[.int .i64 t1, .int .i64 a1, .string s1, u1] 44 (0, 0)) := by
      have := heap_alloc_at (wr.alloc (.cells #[.int .i64 t1, .int .i64 a1, .string s1, u1] 44)) (.cells #[.int .i64 t1, .int .i64 a1, .string s1, u1] 44)
      simpa using this
    rcases hu1 with rfl | ⟨T1, x1, rfl⟩
    · go_wp2_with fail
      refine (write_calls w.heap.size w.heap.size (headText before) t1 a1 s1 _ _ FX Ix (by have hq : s1.size ≤ 1000000 := hx1.2.2; omega) (by simp; omega) hNG HU.out (by simp; omega) hx1.1.1 hx1.1.2 hx1.2.1.1 hx1.2.1.2).mono ?_
      rintro e w2 ⟨rfl, hb2, hk2⟩
      have hg2 := hk2.fault hgx (by omega)
      obtain ⟨⟨c0, c1, c2, c3⟩, _⟩ := cells_of_heap hg2
      have z2 : w.heap.size < w2.heap.size := by have := hk2.below.size; simp at this; omega
      have Bl2 := Bx.trans hk2.below
      clear Ix FX hgx hff hB1
      go_wp2_with fail
      refine (Tryd.Builder_String_any_k w.heap.size w.heap.size _ _ hb2 (Nat.le_of_lt z2)).mono ?_
      rintro e w3 ⟨rfl, _, hb3, _⟩
      go_wp2_with fail
      go_ret
      refine ⟨ret_bytes ?_, Bl2.trans hb3⟩
      obtain ⟨hsp, _⟩ := A.out
      rw [hsp, hc1.nil_inv, errText_snoc]
    · obtain ⟨t2, a2, s2, l2, b2, u2, hl2, rfl, rfl, hf2, hc2⟩ := hc1.cons_inv
      go_wp2_with fail
      refine (write_calls w.heap.size w.heap.size (headText before) t1 a1 s1 _ _ FX Ix (by have hq : s1.size ≤ 1000000 := hx1.2.2; omega) (by simp; omega) hNG HU.out (by simp; omega) hx1.1.1 hx1.1.2 hx1.2.1.1 hx1.2.1.2).mono ?_
      rintro e w2 ⟨rfl, hb2, hk2⟩
      have hg2 := hk2.fault hgx (by omega)
      obtain ⟨⟨c0, c1, c2, c3⟩, _⟩ := cells_of_heap hg2
      have z2 : w.heap.size < w2.heap.size := by have := hk2.below.size; simp at this; omega
      have Bl2 := Bx.trans hk2.below
      clear Ix FX hgx hff hB1
      have hlx := layerText_length (t1, a1, s1) hx1
      go_wp2_with fail
      refine (ws_calls w.heap.size w.heap.size _ _ _ hb2 (by
        have e1 : (⟨#[58, 32]⟩ : ByteArray).size = 2 := rfl
        simp only [List.length_append, e1]; omega) (Nat.le_of_lt z2)).mono ?_
      rintro e w3 ⟨rfl, hb3, hk3⟩
      have hg3 := hk3.fault hg2 (by omega)
      clear c0 c1 c2 c3
      obtain ⟨⟨c0, c1, c2, c3⟩, _⟩ := cells_of_heap hg3
      have z3 : w.heap.size < w3.heap.size := by have := hk3.below.size; omega
      have Bl3 := Bl2.trans hk3.below
      clear hg2 hg3
      have L2 := Lib.hid hl2
      clear hl2
      go_wp2_with fail
      go_roundg l2.length
      case measure => obtain ⟨_, hk⟩ := A.out; rw [hk, L2.out]; simp
      case rel =>
        obtain ⟨hsp, _⟩ := A.out
        exact ⟨before ++ [(t1, a1, s1)], (t2, a2, s2), l2, b2, u2, by rw [hsp, L2.out]; simp, rfl, rfl, hf2, hc2, by rw [headText_snoc, ← List.append_assoc]; exact hb3, Bl3, z3⟩
end Go.Proofs.YtfcjiiogigfjkaaDoor
