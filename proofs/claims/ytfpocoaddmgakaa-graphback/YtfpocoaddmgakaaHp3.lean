/- Contract of up: the entry at an index is moved toward the root. -/
import Derived.Test.YtfpocoaddmgakaaHp1
namespace Go.Proofs.Ytfpocoaddmgakaa
open Go.RowKit
set_option linter.unusedVariables false
set_option linter.unusedSimpArgs false

/-- What before answers at a heap with the order fv. -/
def BeforeIs (fv : Value) (lt : (Int × Int) → (Int × Int) → Bool) : Prop :=
  ∀ (w : World) (g : Nat) (lv : Value) (es : List (Int × Int)) (p : Int), HeapAt w g fv lv es p → ∀ i j : Nat, i < es.length → j < es.length →
    Calls Try.prog 31 #[.pointer (some ⟨g, 0, none⟩), .int .i64 i, .int .i64 j] w fun e w' => e = .returned (.bool (lt (atE es i) (atE es j))) ∧ Below w.heap.size w w'

/-- Behind an exchange of two entries. -/
theorem heap_swap {w : World} {g r cap : Nat} {fv : Value} {es : List (Int × Int)} {p : Int} (h : HeapAt w g fv (.slice (some ⟨r, 0, none⟩) es.length cap) es p) (i j : Nat) (hi : i < es.length) (hj : j < es.length) :
    HeapAt ((((w.setCell ⟨r, i * 2, none⟩ (.int .i64 (atE es j).1)).setCell ⟨r, i * 2 + 1, none⟩ (.int .i64 (atE es j).2)).setCell ⟨r, j * 2, none⟩ (.int .i64 (atE es i).1)).setCell ⟨r, j * 2 + 1, none⟩ (.int .i64 (atE es i).2)) g fv (.slice (some ⟨r, 0, none⟩) es.length cap) (swpL es i j) p := by
  have hgr : g ≠ r := fun e => h.ne (by simp [Value.ownBlock, e])
  have h1 := (h.row.stored (i * 2) (.int .i64 (atE es j).1)).1
  have h2 := (h1.stored (i * 2 + 1) (.int .i64 (atE es j).2)).1
  have h3 := (h2.stored (j * 2) (.int .i64 (atE es i).1)).1
  have h4 := (h3.stored (j * 2 + 1) (.int .i64 (atE es i).2)).1
  rw [flat_set (atE es j) hi, flat_set (atE es i) (by simpa using hj)] at h4
  refine ⟨?_, by rw [swpL_len]; exact h4, h.ne⟩
  rw [Below.heap_setCell _ _ _ g hgr, Below.heap_setCell _ _ _ g hgr, Below.heap_setCell _ _ _ g hgr, Below.heap_setCell _ _ _ g hgr]
  exact h.blk
theorem HeapAt.drewN {w : World} {g : Nat} {fv lv : Value} {es : List (Int × Int)} {p : Int} (h : HeapAt w g fv lv es p) (n : Nat) : HeapAt (w.drewN n) g fv lv es p := ⟨h.blk, h.row, h.ne⟩

/-- What a move leaves: a heap with the same entries; only the list's block may have turned. -/
def Moved (lt : (Int × Int) → (Int × Int) → Bool) (w : World) (g : Nat) (fv lv : Value) (es : List (Int × Int)) (p : Int) (e : Ending) (w' : World) : Prop :=
  e = .returned (.tuple #[]) ∧ ∃ es', HeapAt w' g fv lv es' p ∧ IsHeap lt es' ∧ es'.Perm es ∧ Keeps (fun b => lv.ownBlock = some b) w w'

set_option maxRecDepth 100000 in
set_option maxHeartbeats 2000000 in
theorem up_calls {fv : Value} {lt : (Int × Int) → (Int × Int) → Bool} (O : Ord lt) (B : BeforeIs fv lt) {w : World} {g : Nat} {lv : Value} {es : List (Int × Int)} {p : Int} (h : HeapAt w g fv lv es p) (i : Nat) (hi : i < es.length) (hup : UpOK lt es i) (hlen : es.length ≤ 1000000) :
    Calls Try.prog 29 #[.pointer (some ⟨g, 0, none⟩), .int .i64 i] w (Moved lt w g fv lv es p) := by
  obtain ⟨r, cap, hlv, hlc, hcm, hrg, hrl⟩ := h.form' (by omega)
  unfold maxLen at hcm
  obtain ⟨n, hn⟩ : ∃ n, es.length = n := ⟨_, rfl⟩
  rw [hn] at hlv hlc hlen hi
  subst hlv
  have HN := Lib.hid hn
  clear hn
  have H0 := Lib.hid (show HeapAt w g fv (.slice (some ⟨r, 0, none⟩) n cap) es p ∧ UpOK lt es i from ⟨h, hup⟩)
  clear h hup
  go_enter Try.func29, Try.ntmps29
  go_wp2_with fail
  go_loopw [1] (fun s wr => ∃ (k : Nat) (fs : List (Int × Int)), k < n ∧ s = .int .i64 k ∧ Hid (fs.length = n) ∧ Hid (HeapAt wr g fv (.slice (some ⟨r, 0, none⟩) n cap) fs p) ∧ Hid (UpOK lt fs k) ∧ Hid (fs.Perm es) ∧ Hid (Keeps (fun b => r = b) w wr))
    (fun s _ => (intOf s).toNat)
  case atStart => exact ⟨i, es, hi, rfl, HN, Lib.hid H0.out.1, Lib.hid H0.out.2, Lib.hid (List.Perm.refl _), Lib.hid (Keeps.refl _ _)⟩
  case round =>
    obtain ⟨k, fs, hk, rfl, HL, HH, HU, HP, HK⟩ := hrel
    by_cases hk0 : k = 0
    · subst hk0
      go_wp2_with fail
      go_end0
      exact ⟨rfl, fs, HH.out, up_stop0 HU.out, HP.out, HK.out.mono (fun b _ e => by simp [Value.ownBlock, e])⟩
    · obtain ⟨q, hq⟩ : ∃ q, (k - 1) / 2 = q := ⟨_, rfl⟩
      have hqk : q < k := by omega
      have hqI : ((k : Int) - 1) / 2 = (q : Int) := by omega
      have HQ := Lib.hid hq
      have HQI := Lib.hid hqI
      have hk1 : (0 : Int) < (k : Int) := by omega
      have hk2 : (1 : Int) ≤ (k : Int) := by omega
      clear hq hqI
      obtain ⟨b, hb⟩ : ∃ b, lt (atE fs k) (atE fs q) = b := ⟨_, rfl⟩
      have HB := Lib.hid hb
      have cb := fun (q' : Int) (e : q' = (q : Int)) => (show Calls Try.prog 31 #[.pointer (some ⟨g, 0, none⟩), .int .i64 k, .int .i64 q'] wr fun e w' => e = .returned (.bool b) ∧ Below wr.heap.size wr w' from by
        rw [e, ← hb]; exact B wr g _ fs p HH.out k q (by rw [HL.out]; exact hk) (by rw [HL.out]; omega))
      clear hb
      cases b
      · go_wp2_with (first | (go_at_call 31; refine (cb _ HQI.out).mono ?_; rintro e w' ⟨rfl, hbel⟩; have BE := Lib.hid hbel; clear hbel))
        go_end0
        exact ⟨rfl, fs, HH.out.below BE.out, up_stop HU.out (by rw [HQ.out]; exact HB.out), HP.out, (HK.out.trans (Keeps.of_below BE.out)).mono (fun b _ e => by simp [Value.ownBlock, e])⟩
      · go_wp2_with (first | (go_at_call 31; refine (cb _ HQI.out).mono ?_; rintro e w' ⟨rfl, hbel⟩; have BE := Lib.hid hbel; clear hbel))
        rw [HQI.out]
        have H1 := HH.out.below BE.out
        have hk' : k < fs.length := by rw [HL.out]; exact hk
        have hq' : q < fs.length := by rw [HL.out]; omega
        obtain ⟨c0, c1, c2⟩ := H1.cell
        have H2 := H1
        rw [← HL.out] at H2
        obtain ⟨fk1, fk2⟩ := flat_at hk'
        obtain ⟨fq1, fq2⟩ := flat_at hq'
        have dk1 := H2.row.cellAt (k * 2) (by omega)
        have dk2 := H2.row.cellAt (k * 2 + 1) (by omega)
        have dq1 := H2.row.cellAt (q * 2) (by omega)
        have dq2 := H2.row.cellAt (q * 2 + 1) (by omega)
        rw [fk1] at dk1
        rw [fk2] at dk2
        rw [fq1] at dq1
        rw [fq2] at dq2
        have zk1 := H2.row.frozenAt (k * 2)
        have zk2 := H2.row.frozenAt (k * 2 + 1)
        have zq1 := H2.row.frozenAt (q * 2)
        have zq2 := H2.row.frozenAt (q * 2 + 1)
        have SW := Lib.hid (heap_swap H2 k q hk' hq')
        clear H1 H2 fk1 fk2 fq1 fq2 c0 c2
        obtain ⟨x1, hx1⟩ : ∃ x, (atE fs k).1 = x := ⟨_, rfl⟩
        obtain ⟨x2, hx2⟩ : ∃ x, (atE fs k).2 = x := ⟨_, rfl⟩
        obtain ⟨y1, hy1⟩ : ∃ x, (atE fs q).1 = x := ⟨_, rfl⟩
        obtain ⟨y2, hy2⟩ : ∃ x, (atE fs q).2 = x := ⟨_, rfl⟩
        rw [hx1] at dk1
        rw [hx2] at dk2
        rw [hy1] at dq1
        rw [hy2] at dq2
        rw [hx1, hx2, hy1, hy2] at SW
        clear hx1 hx2 hy1 hy2 hk' hq'
        have bk : (k : Int) < (n : Int) := by omega
        have bq : (q : Int) < (n : Int) := by omega
        have bq0 : (0 : Int) ≤ (q : Int) := by omega
        have n1 : ¬ k = q := by omega
        have n2 : ¬ q = k := by omega
        have n3 : ¬ k * 2 = q * 2 + 1 := by omega
        have n4 : ¬ q * 2 = k * 2 + 1 := by omega
        have n5 : ¬ k * 2 + 1 = q * 2 := by omega
        have n6 : ¬ q * 2 + 1 = k * 2 := by omega
        go_region
        have KS := Lib.hid (((((HK.out.trans (Keeps.of_below BE.out)).setCell (p := ⟨r, k * 2, none⟩) rfl (.int .i64 y1)).setCell (p := ⟨r, k * 2 + 1, none⟩) rfl (.int .i64 y2)).setCell (p := ⟨r, q * 2, none⟩) rfl (.int .i64 x1)).setCell (p := ⟨r, q * 2 + 1, none⟩) rfl (.int .i64 x2))
        clear dk1 dk2 dq1 dq2 zk1 zk2 zq1 zq2 c1
        generalize World.setCell (World.setCell _ _ _) _ _ = W at *
        go_wp2_with fail
        go_roundw
        case rel =>
          refine ⟨q, swpL fs k q, by omega, rfl, Lib.hid (by rw [swpL_len]; exact HL.out), Lib.hid ?_, Lib.hid ?_, Lib.hid ?_, Lib.hid ?_⟩
          · have := SW.out.drewN 1; rw [HL.out] at this; exact this
          · rw [← HQ.out]; exact up_step O HU.out (by omega) (by rw [HL.out]; exact hk) (by rw [HQ.out]; exact HB.out)
          · exact (perm_swp (by rw [HL.out]; exact hk) (by rw [HL.out]; omega)).trans HP.out
          · exact ⟨KS.out.os, KS.out.tape, KS.out.output, KS.out.size, KS.out.block⟩
        case measure => simp [intOf]; omega
end Go.Proofs.Ytfpocoaddmgakaa
