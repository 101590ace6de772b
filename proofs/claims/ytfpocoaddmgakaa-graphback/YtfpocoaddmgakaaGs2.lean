/- Contracts of isNode and enter. -/
import Derived.Test.YtfpocoaddmgakaaGs1
namespace Go.Proofs.Ytfpocoaddmgakaa
open Go.RowKit
set_option linter.unusedVariables false
set_option linter.unusedSimpArgs false

theorem isNode_calls (a : Option Addr) (n c : Nat) (t : Int) (w : World) : Calls Try.prog 18 #[.slice a n c, .int .i64 t] w fun e w' => e = .returned (.bool (decide (0 ≤ t ∧ t < (n : Int)))) ∧ w' = w := by
  by_cases h0 : 0 ≤ t
  · have t1 : decide ((0 : Int) ≤ t) = true := decide_eq_true h0
    have E : Hid (decide (0 ≤ t ∧ t < (n : Int)) = decide (t < (n : Int))) := Lib.hid (by simp [h0])
    go_enter Try.func18, Try.ntmps18
    go_wp2_with fail
    go_ret
    exact ⟨by rw [E.out]; rfl, rfl⟩
  · have t1 : decide ((0 : Int) ≤ t) = false := decide_eq_false h0
    have E : Hid (decide (0 ≤ t ∧ t < (n : Int)) = false) := Lib.hid (by simp [h0])
    clear h0
    go_enter Try.func18, Try.ntmps18
    go_wp2_with fail
    go_ret
    exact ⟨by rw [E.out]; rfl, rfl⟩

set_option maxRecDepth 100000 in
set_option maxHeartbeats 4000000 in
theorem enter_calls {B : Nat} {w : World} {G : Nat} {ev : Value} {n bt bl bn bd : Nat} {pv ov : Value} {s : TS} (h : SM B w G ev n bt bl bn bd pv ov s) (hB : B ≤ w.heap.size) {v : Nat} (hv : v < n) (hn : n ≤ 100000) (hf : s.found ≤ 100000) (hp : s.path.length ≤ 100000) (ho : s.opn.length ≤ 100000) :
    Calls Try.prog 26 #[.pointer (some ⟨G, 0, none⟩), .int .i64 v] w fun e w' => e = .returned (.tuple #[]) ∧ (∃ pv' ov', SM B w' G ev n bt bl bn bd pv' ov' (s.enter v)) ∧ Below B w w' := by
  obtain ⟨i1, hi, hz0, hz1, hz2⟩ := info_parts info3
  have I := Lib.hid hi
  have Z0 := Lib.hid hz0
  have Z1 := Lib.hid hz1
  have Z2 := Lib.hid hz2
  clear hi hz0 hz1 hz2
  have H0 := Lib.hid h
  obtain ⟨c0, c1, c2, c3, c4, c5, c6, c7, cf⟩ := h.boxCell
  have f1 := cf 1
  have v0 : (0 : Int) ≤ (v : Int) := by omega
  have v1 : (v : Int) < (n : Int) := by omega
  clear h c0 c2 c3 c4 c5 c6 c7 cf
  go_enter Try.func26, Try.ntmps26
  go_wp2_with fail
  have e0 : ((s.found + 1 : Nat) : Int) = (s.found : Int) + 1 := by omega
  have R := H0.out.foundSet (s.found + 1)
  rw [e0] at R
  have H1 := Lib.hid R.1
  have B1 := Lib.hid R.2
  clear R c1 f1 H0
  generalize World.setCell w _ _ = w1 at *
  have c1 : w1.cell? ⟨G, 1, none⟩ = some (.int .i64 ((s.found : Int) + 1)) := by rw [← e0]; exact H1.out.boxCell.2.1
  have c2 := H1.out.boxCell.2.2.1
  have t1 := (H1.out.turnAt hv).1
  have t2 := (H1.out.turnAt hv).2
  clear v0 v1
  have v0 : (0 : Int) ≤ (v : Int) := by omega
  have v1 : (v : Int) < (n : Int) := by omega
  go_region
  have R := H1.out.turnSet v (s.found + 1)
  rw [e0] at R
  have H2 := Lib.hid R.1.drew
  have B2 := Lib.hid (below_drew (B1.out.trans R.2))
  clear R c1 c2 t1 t2 H1 B1
  generalize World.drew (World.setCell w1 _ _) = w2 at *
  have c1 : w2.cell? ⟨G, 1, none⟩ = some (.int .i64 ((s.found : Int) + 1)) := by rw [← e0]; exact H2.out.boxCell.2.1
  have c2 := H2.out.boxCell.2.2.2.1
  have t1 := (H2.out.lowAt hv).1
  have t2 := (H2.out.lowAt hv).2
  go_wp2_with fail
  go_region
  have R := H2.out.lowSet v (s.found + 1)
  rw [e0] at R
  have H3 := Lib.hid R.1.drew
  have B3 := Lib.hid (below_drew (B2.out.trans R.2))
  clear R c1 c2 t1 t2 H2 B2
  generalize World.drew (World.setCell w2 _ _) = w3 at *
  have hB3 : B ≤ w3.heap.size := Nat.le_trans hB B3.out.size
  have c6 := H3.out.boxCell.2.2.2.2.2.2.1
  have f6 := H3.out.boxCell.2.2.2.2.2.2.2.2 6
  obtain ⟨pa, pc, rfl, _⟩ := H3.out.pform
  go_wp2_with (first | (at_builtin; refine wpList_append_own_at _ rfl _ _ 22 rfl B 3 i1 (.int .i64 0) 1 8 Try.underlying22 I.out Z0.out Z1.out Z2.out rfl (by decide) _ _ _ rfl (H3.out.p.alloc _) ⟨w3.heap.size, 0, none⟩ 1 1 [.int .i64 v] rfl rfl ?b1 ?b2 ?b3 ?b4 ?b5 ?_))
  case b2 => rfl
  case b3 => unfold maxLen; omega
  case b4 => omega
  case b5 => omega
  intro v' w4 hown' hgrow _ hat
  have R := H3.out.pathPush (x := v) hB3 hown' hgrow hat
  have P6 : w4.cell? ⟨G, 6, none⟩ = some (.slice pa s.path.length pc) := by
    rw [World.cell?_of_block (a := ⟨G, 6, none⟩) (hgrow.block G (by have := H3.out.lt; simp; omega) (fun e => (H3.out.pne e.symm).1 rfl)), World.cell?_of_block (a := ⟨G, 6, none⟩) (heap_alloc_old w3 _ H3.out.lt.1)]; exact c6
  have F6 : w4.frozen? ⟨G, 6, none⟩ = false := by
    rw [World.frozen?_of_block (a := ⟨G, 6, none⟩) (hgrow.block G (by have := H3.out.lt; simp; omega) (fun e => (H3.out.pne e.symm).1 rfl)), World.frozen?_of_block (a := ⟨G, 6, none⟩) (heap_alloc_old w3 _ H3.out.lt.1)]; exact f6
  obtain ⟨R1, R2, qa, qc, rfl⟩ := R
  have H4 := Lib.hid R1
  have B4 := Lib.hid (B3.out.trans R2)
  clear R1 R2 hown' hgrow hat c6 f6 H3 B3
  obtain ⟨w5, hw5⟩ : ∃ w5, w5 = w4.setCell ⟨G, 6, none⟩ (.slice qa (s.path.length + 1) qc) := ⟨_, rfl⟩
  rw [← hw5] at H4 B4
  have hB5 : B ≤ w5.heap.size := Nat.le_trans hB B4.out.size
  have c7 := H4.out.boxCell.2.2.2.2.2.2.2.1
  have f7 := H4.out.boxCell.2.2.2.2.2.2.2.2 7
  obtain ⟨oa, oc, rfl, _⟩ := H4.out.oform
  have c7' := c7
  rw [hw5] at c7'
  have OW := Lib.hid (H4.out.o.alloc (.cells #[.int .i64 v] 3))
  have NW : Hid (∀ (j : Nat) (u : Value), [Value.int .i64 (v : Int)][j]? = some u → (w5.alloc (.cells #[.int .i64 v] 3)).cell? ((⟨w5.heap.size, 0, none⟩ : Addr).add j) = some u) := Lib.hid (cell_one_new w5 _ _)
  have S5 : Hid (w4.heap.size = w5.heap.size) := Lib.hid (by rw [hw5]; simp)
  have HW5 := Lib.hid hw5
  have C7 := Lib.hid c7
  clear hw5 c7
  go_wp2_with (first | (at_builtin; refine wpList_append_own_at _ rfl _ _ 22 rfl B 3 i1 (.int .i64 0) 1 8 Try.underlying22 I.out Z0.out Z1.out Z2.out rfl (by decide) _ _ _ rfl (by rw [HW5.out] at OW; exact OW.out) ⟨w4.heap.size, 0, none⟩ 1 1 [.int .i64 v] rfl rfl (by rw [S5.out]; rw [HW5.out] at NW ⊢; exact NW.out) ?b7 ?b8 ?b9 ?b10 ?_))
  case b7 => rfl
  case b8 => unfold maxLen; omega
  case b9 => omega
  case b10 => have := S5.out; omega
  intro v' w6 hown' hgrow _ hat
  rw [← HW5.out] at hgrow
  rw [S5.out] at hat
  have R := H4.out.opnPush (x := v) hB5 hown' hgrow hat
  have P7 : w6.cell? ⟨G, 7, none⟩ = some (.slice oa s.opn.length oc) := by
    rw [World.cell?_of_block (a := ⟨G, 7, none⟩) (hgrow.block G (by have := H4.out.lt; simp; omega) (fun e => (H4.out.one e.symm).1 rfl)), World.cell?_of_block (a := ⟨G, 7, none⟩) (heap_alloc_old w5 _ H4.out.lt.1)]; exact C7.out
  have F7 : w6.frozen? ⟨G, 7, none⟩ = false := by
    rw [World.frozen?_of_block (a := ⟨G, 7, none⟩) (hgrow.block G (by have := H4.out.lt; simp; omega) (fun e => (H4.out.one e.symm).1 rfl)), World.frozen?_of_block (a := ⟨G, 7, none⟩) (heap_alloc_old w5 _ H4.out.lt.1)]; exact f7
  obtain ⟨R1, R2, ra, rc, rfl⟩ := R
  have H5 := Lib.hid R1
  have B5 := Lib.hid (B4.out.trans R2)
  clear R1 R2 hown' hgrow hat c7' C7 f7 H4 B4
  go_wp2_with fail
  go_end0
  exact ⟨rfl, ⟨_, _, H5.out⟩, B5.out⟩
end Go.Proofs.Ytfpocoaddmgakaa
