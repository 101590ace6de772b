/- Contract of follow. -/
import Derived.Test.YtfpocoaddmgakaaGs2
namespace Go.Proofs.Ytfpocoaddmgakaa
open Go.RowKit
set_option linter.unusedVariables false
set_option linter.unusedSimpArgs false

def SMRet (B : Nat) (w : World) (G : Nat) (ev : Value) (n bt bl bn bd : Nat) (s : TS) (e : Ending) (w' : World) : Prop :=
  e = .returned (.tuple #[]) ∧ (∃ pv' ov', SM B w' G ev n bt bl bn bd pv' ov' s) ∧ Below B w w'

set_option maxRecDepth 100000 in
set_option maxHeartbeats 4000000 in
theorem follow_calls {B : Nat} {w : World} {G : Nat} {ea : Option Addr} {ec n bt bl bn bd : Nat} {pv ov : Value} {s : TS} (h : SM B w G (.slice ea n ec) n bt bl bn bd pv ov s) (hB : B ≤ w.heap.size) {v : Nat} (hv : v < n) (t : Int) (hn : n ≤ 100000) (hf : s.found ≤ 100000) (hp : s.path.length ≤ 100000) (ho : s.opn.length ≤ 100000) (hle : ∀ u, u < n → s.turn u ≤ 100000 ∧ s.low u ≤ 100000) :
    Calls Try.prog 28 #[.pointer (some ⟨G, 0, none⟩), .int .i64 v, .int .i64 t] w (SMRet B w G (.slice ea n ec) n bt bl bn bd (s.follow n v t)) := by
  have H0 := Lib.hid h
  have c0 := h.boxCell.1
  have iN := isNode_calls ea n ec t w
  by_cases hnode : 0 ≤ t ∧ t < (n : Int)
  · have ht1 : decide (0 ≤ t ∧ t < (n : Int)) = true := decide_eq_true hnode
    rw [ht1] at iN
    obtain ⟨b, rfl⟩ : ∃ b : Nat, t = b := ⟨t.toNat, by omega⟩
    have hb : b < n := by omega
    have b0 : (0 : Int) ≤ (b : Int) := by omega
    have b1 : (b : Int) < (n : Int) := by omega
    have v0 : (0 : Int) ≤ (v : Int) := by omega
    have v1 : (v : Int) < (n : Int) := by omega
    have EF : Hid (s.follow n v (b : Int) = if s.turn b = 0 then s.enter b else if s.lead b < 0 then s.lower v (s.turn b) else s) := Lib.hid (by unfold TS.follow; rw [if_pos hnode, Int.toNat_natCast])
    clear hnode ht1
    have c2 := h.boxCell.2.2.1
    have t1 := (h.turnAt hb).1
    by_cases h0 : s.turn b = 0
    · have FF := EF.out
      rw [if_pos h0] at FF
      have q1 : (((s.turn b : Nat) : Int) == 0) = true := by rw [h0]; rfl
      have ce := enter_calls h hB hb hn hf hp ho
      clear h h0 EF
      rw [FF]
      clear FF
      go_enter Try.func28, Try.ntmps28
      go_wp2_with (first | (go_at_call 18; refine iN.mono ?_; rintro e w' ⟨rfl, rfl⟩) | (go_at_call 26; refine ce.mono ?_; rintro e w' ⟨rfl, hh1, hh2⟩; have HH1 := Lib.hid hh1; have HH2 := Lib.hid hh2; clear hh1 hh2))
      go_end0
      exact ⟨rfl, HH1.out, HH2.out⟩
    · have FF := EF.out
      rw [if_neg h0] at FF
      have q1 : (((s.turn b : Nat) : Int) == 0) = false := by rw [beq_eq_false_iff_ne]; omega
      have c5 := h.boxCell.2.2.2.2.2.1
      have d1 := (h.leadAt hb).1
      by_cases hl : s.lead b < 0
      · rw [if_pos hl] at FF
        have q2 : decide (s.lead b < 0) = true := decide_eq_true hl
        have c3 := h.boxCell.2.2.2.1
        have l1 := (h.lowAt hv).1
        have l2 := (h.lowAt hv).2
        have R := h.lowSet v (min (s.low v) (s.turn b))
        have hb1 := (hle b hb).1
        have hb2 := (hle v hv).2
        have FH := Lib.hid FF
        clear h EF FF h0 hl H0 hle
        by_cases hm : s.low v ≤ s.turn b
        · rw [Nat.min_eq_left hm] at R
          have m1 : min ((s.low v : Nat) : Int) ((s.turn b : Nat) : Int) = ((s.low v : Nat) : Int) := by omega
          have HR := Lib.hid R
          have HM := Lib.hid hm
          clear R hm
          go_enter Try.func28, Try.ntmps28
          go_wp2_with (first | (go_at_call 18; refine iN.mono ?_; rintro e w' ⟨rfl, rfl⟩))
          go_region
          have FI := FH.out
          rw [show s.lower v (s.turn b) = { s with low := upd s.low v (min (s.low v) (s.turn b)) } from rfl, Nat.min_eq_left (by have := HM.out; omega)] at FI
          rw [← FI] at HR
          clear FI FH c0 c2 t1 c5 d1 c3 l1 l2 iN m1
          go_wp2_with fail
          go_end0
          exact ⟨rfl, ⟨_, _, HR.out.1.drew⟩, below_drew HR.out.2⟩
        · rw [Nat.min_eq_right (by omega)] at R
          have m1 : min ((s.low v : Nat) : Int) ((s.turn b : Nat) : Int) = ((s.turn b : Nat) : Int) := by omega
          have m3 : s.turn b < s.low v := by omega
          have HR := Lib.hid R
          have HM := Lib.hid hm
          clear R hm
          go_enter Try.func28, Try.ntmps28
          go_wp2_with (first | (go_at_call 18; refine iN.mono ?_; rintro e w' ⟨rfl, rfl⟩))
          go_region
          have FI := FH.out
          rw [show s.lower v (s.turn b) = { s with low := upd s.low v (min (s.low v) (s.turn b)) } from rfl, Nat.min_eq_right (by have := HM.out; omega)] at FI
          rw [← FI] at HR
          clear FI FH c0 c2 t1 c5 d1 c3 l1 l2 iN m1
          go_wp2_with fail
          go_end0
          exact ⟨rfl, ⟨_, _, HR.out.1.drew⟩, below_drew HR.out.2⟩
      · rw [if_neg hl] at FF
        have q2 : decide (s.lead b < 0) = false := decide_eq_false hl
        rw [FF]
        clear h EF FF h0 hl hle
        go_enter Try.func28, Try.ntmps28
        go_wp2_with (first | (go_at_call 18; refine iN.mono ?_; rintro e w' ⟨rfl, rfl⟩))
        go_end0
        exact ⟨rfl, ⟨_, _, H0.out⟩, Below.refl _ _⟩
  · have ht1 : decide (0 ≤ t ∧ t < (n : Int)) = false := decide_eq_false hnode
    rw [ht1] at iN
    have EF : s.follow n v t = s := by unfold TS.follow; rw [if_neg hnode]
    rw [EF]
    clear h hnode ht1 EF hle
    go_enter Try.func28, Try.ntmps28
    go_wp2_with (first | (go_at_call 18; refine iN.mono ?_; rintro e w' ⟨rfl, rfl⟩))
    go_end0
    exact ⟨rfl, ⟨_, _, H0.out⟩, Below.refl _ _⟩
end Go.Proofs.Ytfpocoaddmgakaa
