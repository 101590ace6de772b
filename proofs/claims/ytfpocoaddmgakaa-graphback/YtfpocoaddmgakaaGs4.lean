/- Contract of leave. -/
import Derived.Test.YtfpocoaddmgakaaGs3
namespace Go.Proofs.Ytfpocoaddmgakaa
open Go.RowKit
set_option linter.unusedVariables false
set_option linter.unusedSimpArgs false

set_option maxRecDepth 100000 in
set_option maxHeartbeats 4000000 in
/-- The last node of the path goes, and what it reaches goes to the one before. -/
theorem leaveUp_calls {B : Nat} {w : World} {G : Nat} {ev : Value} {n bt bl bn bd : Nat} {pv ov : Value} {s : TS} (h : SM B w G ev n bt bl bn bd pv ov s) (hB : B ≤ w.heap.size) {v b : Nat} {q : List Nat} (hpath : s.path = v :: b :: q) (hv : v < n) (hb : b < n) (hn : n ≤ 100000) (hp : s.path.length ≤ 100000) (hle : ∀ u, u < n → s.turn u ≤ 100000 ∧ s.low u ≤ 100000) (hlow : s.low v < s.turn v) :
    Calls Try.prog 27 #[.pointer (some ⟨G, 0, none⟩), .int .i64 v] w (SMRet B w G ev n bt bl bn bd { s with path := b :: q, low := upd s.low b (min (s.low b) (s.low v)) }) := by
  obtain ⟨r, c, rfl, hc, htop⟩ := h.ptop hpath
  have H0 := Lib.hid h
  have c6 := h.boxCell.2.2.2.2.2.2.1
  have f6 := h.boxCell.2.2.2.2.2.2.2.2 6
  have R := h.pathDrop (q := b :: q) hpath
  have H1 := Lib.hid R.1
  have B1 := Lib.hid R.2
  have hql : q.length + 2 ≤ 100000 := by rw [hpath] at hp; simpa using hp
  have v0 : (0 : Int) ≤ (v : Int) := by omega
  have v1 : (v : Int) < (n : Int) := by omega
  have b0 : (0 : Int) ≤ (b : Int) := by omega
  have b1 : (b : Int) < (n : Int) := by omega
  simp only [List.length_cons] at c6 H1 B1 hc
  have t0 : decide ((s.low v : Int) < (s.turn v : Int)) = true := decide_eq_true (by omega)
  clear R h hpath
  go_enter Try.func27, Try.ntmps27
  go_wp2_with fail
  go_region
  have H2 := Lib.hid H1.out.drew
  have B2 := Lib.hid (below_drew B1.out)
  clear c6 f6 htop H1 B1 H0
  generalize World.drew (World.setCell w _ _) = w2 at *
  have c2 := H2.out.boxCell.2.2.1
  have c3 := H2.out.boxCell.2.2.2.1
  have l1 := (H2.out.lowAt hv).1
  have t1 := (H2.out.turnAt hv).1
  have c6 := H2.out.boxCell.2.2.2.2.2.2.1
  obtain ⟨r2, cc2, e2, _, htop⟩ := H2.out.ptop rfl
  obtain ⟨rfl, rfl⟩ : r = r2 ∧ c = cc2 := by simpa using e2
  clear e2
  go_wp2_with fail
  go_region
  have H3 := Lib.hid H2.out.drew
  have B3 := Lib.hid (below_drew B2.out)
  clear c2 c3 l1 t1 c6 htop H2 B2
  generalize World.drew w2 = w3 at *
  have c6 := H3.out.boxCell.2.2.2.2.2.2.1
  obtain ⟨r2, cc2, e2, _, htop⟩ := H3.out.ptop rfl
  obtain ⟨rfl, rfl⟩ : r = r2 ∧ c = cc2 := by simpa using e2
  clear e2
  go_wp2_with fail
  go_region
  have H4 := Lib.hid H3.out.drew
  have B4 := Lib.hid (below_drew B3.out)
  clear c6 htop H3 B3
  generalize World.drew w3 = w4 at *
  have c3 := H4.out.boxCell.2.2.2.1
  have l1 := (H4.out.lowAt hv).1
  have l2 := (H4.out.lowAt hb).1
  have l3 := (H4.out.lowAt hb).2
  have hb1 := (hle b hb).2
  have hb2 := (hle v hv).2
  have R := H4.out.lowSet b (min (s.low b) (s.low v))
  clear hle
  by_cases hm : s.low b ≤ s.low v
  · rw [Nat.min_eq_left hm] at R
    have m1 : min ((s.low b : Nat) : Int) ((s.low v : Nat) : Int) = ((s.low b : Nat) : Int) := by omega
    have HR := Lib.hid R
    have HM : Hid (min (s.low b) (s.low v) = s.low b) := Lib.hid (by omega)
    clear R hm
    go_wp2_with fail
    go_region
    clear c3 l1 l2 l3 m1
    go_wp2_with fail
    go_end0
    rw [HM.out]
    exact ⟨rfl, ⟨_, _, HR.out.1.drew⟩, below_drew (B4.out.trans HR.out.2)⟩
  · rw [Nat.min_eq_right (by omega)] at R
    have m1 : min ((s.low b : Nat) : Int) ((s.low v : Nat) : Int) = ((s.low v : Nat) : Int) := by omega
    have m3 : s.low v < s.low b := by omega
    have HR := Lib.hid R
    have HM : Hid (min (s.low b) (s.low v) = s.low v) := Lib.hid (by omega)
    clear R hm
    go_wp2_with fail
    go_region
    clear c3 l1 l2 l3 m1
    go_wp2_with fail
    go_end0
    rw [HM.out]
    exact ⟨rfl, ⟨_, _, HR.out.1.drew⟩, below_drew (B4.out.trans HR.out.2)⟩
end Go.Proofs.Ytfpocoaddmgakaa
