/- Contract of up, of cursors. Written by mkhc.py. -/
import Derived.Test.YtepkmhcchmladaaHc1
namespace Go.Proofs.Ytepkmhcchmladaa.Cu
open Go.RowKit
set_option linter.unusedVariables false
set_option linter.unusedSimpArgs false

/-- What before answers at a heap with the order fv. -/
def BeforeIs (fv : Value) (lt : CE → CE → Bool) : Prop :=
  ∀ (w : World) (g : Nat) (lv : Value) (es : List CE) (p : Int), HeapAt w g fv lv es p → ∀ i j : Nat, i < es.length → j < es.length →
    Calls Try.prog 95 #[.pointer (some ⟨g, 0, none⟩), .int .i64 i, .int .i64 j] w fun e w' => e = .returned (.bool (lt (atE es i) (atE es j))) ∧ Below w.heap.size w w'
theorem swp_mem {es : List CE} {i j : Nat} (hi : i < es.length) (hj : j < es.length) : ∀ e ∈ swpL es i j, e ∈ es := fun e he => (perm_swp hi hj).subset he
/-- Behind an exchange of two entries. -/
theorem heap_swap {w : World} {g r cap : Nat} {fv : Value} {es : List CE} {p : Int} (h : HeapAt w g fv (.slice (some ⟨r, 0, none⟩) es.length cap) es p) (i j : Nat) (hi : i < es.length) (hj : j < es.length) :
    HeapAt ((((((((w.setCell ⟨r, i * 4, none⟩ (.pointer (atE es j).1.1.1)).setCell ⟨r, i * 4 + 1, none⟩ (.int .i64 (atE es j).1.1.2)).setCell ⟨r, i * 4 + 2, none⟩ (.slice (atE es j).1.2.1 (atE es j).1.2.2.1.length (atE es j).1.2.2.2)).setCell ⟨r, i * 4 + 3, none⟩ (.int .i64 (atE es j).2)).setCell ⟨r, j * 4, none⟩ (.pointer (atE es i).1.1.1)).setCell ⟨r, j * 4 + 1, none⟩ (.int .i64 (atE es i).1.1.2)).setCell ⟨r, j * 4 + 2, none⟩ (.slice (atE es i).1.2.1 (atE es i).1.2.2.1.length (atE es i).1.2.2.2)).setCell ⟨r, j * 4 + 3, none⟩ (.int .i64 (atE es i).2)) g fv (.slice (some ⟨r, 0, none⟩) es.length cap) (swpL es i j) p := by
  have hgr : g ≠ r := fun e => h.ne (by simp [Value.ownBlock, e])
  have h0 := h.row
  have h1 := (h0.stored (i * 4) (.pointer (atE es j).1.1.1)).1
  have h2 := (h1.stored (i * 4 + 1) (.int .i64 (atE es j).1.1.2)).1
  have h3 := (h2.stored (i * 4 + 2) (.slice (atE es j).1.2.1 (atE es j).1.2.2.1.length (atE es j).1.2.2.2)).1
  have h4 := (h3.stored (i * 4 + 3) (.int .i64 (atE es j).2)).1
  have h5 := (h4.stored (j * 4) (.pointer (atE es i).1.1.1)).1
  have h6 := (h5.stored (j * 4 + 1) (.int .i64 (atE es i).1.1.2)).1
  have h7 := (h6.stored (j * 4 + 2) (.slice (atE es i).1.2.1 (atE es i).1.2.2.1.length (atE es i).1.2.2.2)).1
  have h8 := (h7.stored (j * 4 + 3) (.int .i64 (atE es i).2)).1
  rw [flat_set (atE es j) hi, flat_set (atE es i) (by simpa using hj)] at h8
  have K8 := (((((((((Keeps.refl (fun b => b = g ∨ (Value.slice (some ⟨r, 0, none⟩) es.length cap).ownBlock = some b) w).setCell (p := ⟨r, i * 4, none⟩) (.inr rfl) (.pointer (atE es j).1.1.1)).setCell (p := ⟨r, i * 4 + 1, none⟩) (.inr rfl) (.int .i64 (atE es j).1.1.2)).setCell (p := ⟨r, i * 4 + 2, none⟩) (.inr rfl) (.slice (atE es j).1.2.1 (atE es j).1.2.2.1.length (atE es j).1.2.2.2)).setCell (p := ⟨r, i * 4 + 3, none⟩) (.inr rfl) (.int .i64 (atE es j).2)).setCell (p := ⟨r, j * 4, none⟩) (.inr rfl) (.pointer (atE es i).1.1.1)).setCell (p := ⟨r, j * 4 + 1, none⟩) (.inr rfl) (.int .i64 (atE es i).1.1.2)).setCell (p := ⟨r, j * 4 + 2, none⟩) (.inr rfl) (.slice (atE es i).1.2.1 (atE es i).1.2.2.1.length (atE es i).1.2.2.2)).setCell (p := ⟨r, j * 4 + 3, none⟩) (.inr rfl) (.int .i64 (atE es i).2))
  refine ⟨?_, by rw [swpL_len]; exact h8, h.ne, (h.rd.own K8).sub (swp_mem hi hj)⟩
  rw [Below.heap_setCell _ _ _ g hgr, Below.heap_setCell _ _ _ g hgr, Below.heap_setCell _ _ _ g hgr, Below.heap_setCell _ _ _ g hgr, Below.heap_setCell _ _ _ g hgr, Below.heap_setCell _ _ _ g hgr, Below.heap_setCell _ _ _ g hgr, Below.heap_setCell _ _ _ g hgr]
  exact h.blk
theorem HeapAt.drewN {w : World} {g : Nat} {fv lv : Value} {es : List CE} {p : Int} (h : HeapAt w g fv lv es p) (n : Nat) : HeapAt (w.drewN n) g fv lv es p := ⟨h.blk, h.row, h.ne, h.rd⟩

/-- What a move leaves: a heap with the same entries; only the list's block may have turned. -/
def Moved (lt : CE → CE → Bool) (w : World) (g : Nat) (fv lv : Value) (es : List CE) (p : Int) (e : Ending) (w' : World) : Prop :=
  e = .returned (.tuple #[]) ∧ ∃ es', HeapAt w' g fv lv es' p ∧ IsHeap lt es' ∧ es'.Perm es ∧ Keeps (fun b => lv.ownBlock = some b) w w'

set_option maxRecDepth 100000 in
set_option maxHeartbeats 4000000 in
theorem up_calls {fv : Value} {lt : CE → CE → Bool} (O : Ord lt) (B : BeforeIs fv lt) {w : World} {g : Nat} {lv : Value} {es : List CE} {p : Int} (h : HeapAt w g fv lv es p) (i : Nat) (hi : i < es.length) (hup : UpOK lt es i) (hlen : es.length ≤ 1000000) :
    Calls Try.prog 94 #[.pointer (some ⟨g, 0, none⟩), .int .i64 i] w (Moved lt w g fv lv es p) := by
  obtain ⟨r, cap, hlv, hlc, hcm, hrg, hrl⟩ := h.form' (by omega)
  unfold maxLen at hcm
  obtain ⟨n, hn⟩ : ∃ n, es.length = n := ⟨_, rfl⟩
  rw [hn] at hlv hlc hlen hi
  subst hlv
  have HN := Lib.hid hn
  clear hn
  have H0 := Lib.hid (show HeapAt w g fv (.slice (some ⟨r, 0, none⟩) n cap) es p ∧ UpOK lt es i from ⟨h, hup⟩)
  clear h hup
  go_enter Try.func94, Try.ntmps94
  go_wp2_with fail
  go_loopw [1] (fun s wr => ∃ (k : Nat) (fs : List CE), k < n ∧ s = .int .i64 k ∧ Hid (fs.length = n) ∧ Hid (HeapAt wr g fv (.slice (some ⟨r, 0, none⟩) n cap) fs p) ∧ Hid (UpOK lt fs k) ∧ Hid (fs.Perm es) ∧ Hid (Keeps (fun b => r = b) w wr))
    (fun s _ => (intOf s).toNat)
  case atStart => exact ⟨i, es, hi, rfl, HN, Lib.hid H0.out.1, Lib.hid H0.out.2, Lib.hid (List.Perm.refl _), Lib.hid (Keeps.refl _ _)⟩
  case round =>
    obtain ⟨k, fs, hk, rfl, HL, HH, HU, HP, HK⟩ := hrel
    by_cases hk0 : k = 0
    · subst hk0
      go_wp2_with fail
      go_end0
      exact ⟨rfl, fs, HH.out, up_stop0 HU.out, HP.out, HK.out.mono (fun b _ e => by simp [Value.ownBlock, e])⟩
    · obtain ⟨q, hq⟩ : ∃ q, (k - 1) / 2 = q := ⟨_, rfl⟩
      have hqk : q < k := by omega
      have hqI : ((k : Int) - 1) / 2 = (q : Int) := by omega
      have HQ := Lib.hid hq
      have HQI := Lib.hid hqI
      have hk1 : (0 : Int) < (k : Int) := by omega
      have hk2 : (1 : Int) ≤ (k : Int) := by omega
      clear hq hqI
      obtain ⟨b, hb⟩ : ∃ b, lt (atE fs k) (atE fs q) = b := ⟨_, rfl⟩
      have HB := Lib.hid hb
      have cb := fun (q' : Int) (e : q' = (q : Int)) => (show Calls Try.prog 95 #[.pointer (some ⟨g, 0, none⟩), .int .i64 k, .int .i64 q'] wr fun e w' => e = .returned (.bool b) ∧ Below wr.heap.size wr w' from by
        rw [e, ← hb]; exact B wr g _ fs p HH.out k q (by rw [HL.out]; exact hk) (by rw [HL.out]; omega))
      clear hb
      cases b
      · go_wp2_with (first | (go_at_call 95; refine (cb _ HQI.out).mono ?_; rintro e w' ⟨rfl, hbel⟩; have BE := Lib.hid hbel; clear hbel))
        go_end0
        exact ⟨rfl, fs, HH.out.below BE.out, up_stop HU.out (by rw [HQ.out]; exact HB.out), HP.out, (HK.out.trans (Keeps.of_below BE.out)).mono (fun b _ e => by simp [Value.ownBlock, e])⟩
      · go_wp2_with (first | (go_at_call 95; refine (cb _ HQI.out).mono ?_; rintro e w' ⟨rfl, hbel⟩; have BE := Lib.hid hbel; clear hbel))
        rw [HQI.out]
        have H1 := HH.out.below BE.out
        have hk' : k < fs.length := by rw [HL.out]; exact hk
        have hq' : q < fs.length := by rw [HL.out]; omega
        obtain ⟨c0, c1, c2⟩ := H1.cell
        have H2 := H1
        rw [← HL.out] at H2
        obtain ⟨fk1, fk2, fk3, fk4⟩ := flat_at hk'
        obtain ⟨fq1, fq2, fq3, fq4⟩ := flat_at hq'
        have dk1 := H2.row.cellAt (k * 4) (by omega)
        have dk2 := H2.row.cellAt (k * 4 + 1) (by omega)
        have dk3 := H2.row.cellAt (k * 4 + 2) (by omega)
        have dk4 := H2.row.cellAt (k * 4 + 3) (by omega)
        have dq1 := H2.row.cellAt (q * 4) (by omega)
        have dq2 := H2.row.cellAt (q * 4 + 1) (by omega)
        have dq3 := H2.row.cellAt (q * 4 + 2) (by omega)
        have dq4 := H2.row.cellAt (q * 4 + 3) (by omega)
        rw [fk1] at dk1
        rw [fk2] at dk2
        rw [fk3] at dk3
        rw [fk4] at dk4
        rw [fq1] at dq1
        rw [fq2] at dq2
        rw [fq3] at dq3
        rw [fq4] at dq4
        have zk1 := H2.row.frozenAt (k * 4)
        have zk2 := H2.row.frozenAt (k * 4 + 1)
        have zk3 := H2.row.frozenAt (k * 4 + 2)
        have zk4 := H2.row.frozenAt (k * 4 + 3)
        have zq1 := H2.row.frozenAt (q * 4)
        have zq2 := H2.row.frozenAt (q * 4 + 1)
        have zq3 := H2.row.frozenAt (q * 4 + 2)
        have zq4 := H2.row.frozenAt (q * 4 + 3)
        have SW := Lib.hid (heap_swap H2 k q hk' hq')
        clear H1 H2 fk1 fk2 fk3 fk4 fq1 fq2 fq3 fq4 c0 c2
        obtain ⟨x, hx⟩ : ∃ x, atE fs k = x := ⟨_, rfl⟩
        rw [hx] at dk1 dk2 dk3 dk4
        obtain ⟨y, hy⟩ : ∃ y, atE fs q = y := ⟨_, rfl⟩
        rw [hy] at dq1 dq2 dq3 dq4
        rw [hx, hy] at SW
        clear hx hy hk' hq'
        obtain ⟨⟨⟨x1, x2⟩, ⟨x3, xz, x4⟩⟩, x5⟩ := x
        obtain ⟨⟨⟨y1, y2⟩, ⟨y3, yz, y4⟩⟩, y5⟩ := y
        dsimp only at SW dk1 dk2 dk3 dk4 dq1 dq2 dq3 dq4
        have bk : (k : Int) < (n : Int) := by omega
        have bk0 : (0 : Int) ≤ (k : Int) := by omega
        have bq : (q : Int) < (n : Int) := by omega
        have bq0 : (0 : Int) ≤ (q : Int) := by omega
        have n1 : ¬ k = q := by omega
        have n2 : ¬ q = k := by omega
        have n3 : ¬ k * 4 = q * 4 + 1 := by omega
        have n4 : ¬ q * 4 = k * 4 + 1 := by omega
        have n5 : ¬ k * 4 = q * 4 + 2 := by omega
        have n6 : ¬ q * 4 = k * 4 + 2 := by omega
        have n7 : ¬ k * 4 = q * 4 + 3 := by omega
        have n8 : ¬ q * 4 = k * 4 + 3 := by omega
        have n9 : ¬ k * 4 + 1 = q * 4 := by omega
        have n10 : ¬ q * 4 + 1 = k * 4 := by omega
        have n11 : ¬ k * 4 + 1 = q * 4 + 2 := by omega
        have n12 : ¬ q * 4 + 1 = k * 4 + 2 := by omega
        have n13 : ¬ k * 4 + 1 = q * 4 + 3 := by omega
        have n14 : ¬ q * 4 + 1 = k * 4 + 3 := by omega
        have n15 : ¬ k * 4 + 2 = q * 4 := by omega
        have n16 : ¬ q * 4 + 2 = k * 4 := by omega
        have n17 : ¬ k * 4 + 2 = q * 4 + 1 := by omega
        have n18 : ¬ q * 4 + 2 = k * 4 + 1 := by omega
        have n19 : ¬ k * 4 + 2 = q * 4 + 3 := by omega
        have n20 : ¬ q * 4 + 2 = k * 4 + 3 := by omega
        have n21 : ¬ k * 4 + 3 = q * 4 := by omega
        have n22 : ¬ q * 4 + 3 = k * 4 := by omega
        have n23 : ¬ k * 4 + 3 = q * 4 + 1 := by omega
        have n24 : ¬ q * 4 + 3 = k * 4 + 1 := by omega
        have n25 : ¬ k * 4 + 3 = q * 4 + 2 := by omega
        have n26 : ¬ q * 4 + 3 = k * 4 + 2 := by omega
        go_region
        have KS := Lib.hid (((((((((HK.out.trans (Keeps.of_below BE.out)).setCell (p := ⟨r, k * 4, none⟩) rfl (.pointer y1)).setCell (p := ⟨r, k * 4 + 1, none⟩) rfl (.int .i64 y2)).setCell (p := ⟨r, k * 4 + 2, none⟩) rfl (.slice y3 yz.length y4)).setCell (p := ⟨r, k * 4 + 3, none⟩) rfl (.int .i64 y5)).setCell (p := ⟨r, q * 4, none⟩) rfl (.pointer x1)).setCell (p := ⟨r, q * 4 + 1, none⟩) rfl (.int .i64 x2)).setCell (p := ⟨r, q * 4 + 2, none⟩) rfl (.slice x3 xz.length x4)).setCell (p := ⟨r, q * 4 + 3, none⟩) rfl (.int .i64 x5))
        clear dk1 dk2 dk3 dk4 dq1 dq2 dq3 dq4 zk1 zk2 zk3 zk4 zq1 zq2 zq3 zq4 c1
        generalize World.setCell (World.setCell _ _ _) _ _ = W at *
        go_wp2_with fail
        go_roundw
        case rel =>
          refine ⟨q, swpL fs k q, by omega, rfl, Lib.hid (by rw [swpL_len]; exact HL.out), Lib.hid ?_, Lib.hid ?_, Lib.hid ?_, Lib.hid ?_⟩
          · have := SW.out.drewN 1; rw [HL.out] at this; exact this
          · rw [← HQ.out]; exact up_step O HU.out (by omega) (by rw [HL.out]; exact hk) (by rw [HQ.out]; exact HB.out)
          · exact (perm_swp (by rw [HL.out]; exact hk) (by rw [HL.out]; omega)).trans HP.out
          · exact ⟨KS.out.os, KS.out.tape, KS.out.output, KS.out.size, KS.out.block⟩
        case measure => simp [intOf]; omega
end Go.Proofs.Ytepkmhcchmladaa.Cu
