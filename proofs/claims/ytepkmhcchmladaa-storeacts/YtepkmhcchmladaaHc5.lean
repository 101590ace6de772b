import Derived.Test.YtepkmhcchmladaaHp1
import Derived.Deep.RegionLaw
import Derived.Test.YtepkmhcchmladaaHc4
/- Contract of up: the entry at an index is moved toward the root. -/
namespace Go.Proofs.Ytepkmhcchmladaa
open Go.RowKit
set_option linter.unusedVariables false
set_option linter.unusedSimpArgs false

/-- What before answers at a heap with the order fv. -/
def BeforeIs (fv : Value) (lt : (Int × Int) → (Int × Int) → Bool) : Prop :=
  ∀ (w : World) (g : Nat) (lv : Value) (es : List (Int × Int)) (p : Int), HeapAt w g fv lv es p → ∀ i j : Nat, i < es.length → j < es.length →
    Calls Try.prog 78 #[.pointer (some ⟨g, 0, none⟩), .int .i64 i, .int .i64 j] w fun e w' => e = .returned (.bool (lt (atE es i) (atE es j))) ∧ Below w.heap.size w w'

/-- Behind an exchange of two entries. -/
theorem heap_swap {w : World} {g r cap : Nat} {fv : Value} {es : List (Int × Int)} {p : Int} (h : HeapAt w g fv (.slice (some ⟨r, 0, none⟩) es.length cap) es p) (i j : Nat) (hi : i < es.length) (hj : j < es.length) :
    HeapAt ((((w.setCell ⟨r, i * 2, none⟩ (.int .i64 (atE es j).1)).setCell ⟨r, i * 2 + 1, none⟩ (.int .i64 (atE es j).2)).setCell ⟨r, j * 2, none⟩ (.int .i64 (atE es i).1)).setCell ⟨r, j * 2 + 1, none⟩ (.int .i64 (atE es i).2)) g fv (.slice (some ⟨r, 0, none⟩) es.length cap) (swpL es i j) p := by
  have hgr : g ≠ r := fun e => h.ne (by simp [Value.ownBlock, e])
  have h1 := (h.row.stored (i * 2) (.int .i64 (atE es j).1)).1
  have h2 := (h1.stored (i * 2 + 1) (.int .i64 (atE es j).2)).1
  have h3 := (h2.stored (j * 2) (.int .i64 (atE es i).1)).1
  have h4 := (h3.stored (j * 2 + 1) (.int .i64 (atE es i).2)).1
  rw [flat_set (atE es j) hi, flat_set (atE es i) (by simpa using hj)] at h4
  refine ⟨?_, by rw [swpL_len]; exact h4, h.ne⟩
  rw [Below.heap_setCell _ _ _ g hgr, Below.heap_setCell _ _ _ g hgr, Below.heap_setCell _ _ _ g hgr, Below.heap_setCell _ _ _ g hgr]
  exact h.blk
theorem HeapAt.drewN {w : World} {g : Nat} {fv lv : Value} {es : List (Int × Int)} {p : Int} (h : HeapAt w g fv lv es p) (n : Nat) : HeapAt (w.drewN n) g fv lv es p := ⟨h.blk, h.row, h.ne⟩

/-- What a move leaves: a heap with the same entries; only the list's block may have turned. -/
def Moved (lt : (Int × Int) → (Int × Int) → Bool) (w : World) (g : Nat) (fv lv : Value) (es : List (Int × Int)) (p : Int) (e : Ending) (w' : World) : Prop :=
  e = .returned (.tuple #[]) ∧ ∃ es', HeapAt w' g fv lv es' p ∧ IsHeap lt es' ∧ es'.Perm es ∧ Keeps (fun b => lv.ownBlock = some b) w w'

set_option maxRecDepth 100000 in
set_option maxHeartbeats 2000000 in
theorem up_calls {fv : Value} {lt : (Int × Int) → (Int × Int) → Bool} (O : Ord lt) (B : BeforeIs fv lt) {w : World} {g : Nat} {lv : Value} {es : List (Int × Int)} {p : Int} (h : HeapAt w g fv lv es p) (i : Nat) (hi : i < es.length) (hup : UpOK lt es i) (hlen : es.length ≤ 1000000) :
    Calls Try.prog 58 #[.pointer (some ⟨g, 0, none⟩), .int .i64 i] w (Moved lt w g fv lv es p) := by
  obtain ⟨r, cap, hlv, hlc, hcm, hrg, hrl⟩ := h.form' (by omega)
  unfold maxLen at hcm
  obtain ⟨n, hn⟩ : ∃ n, es.length = n := ⟨_, rfl⟩
  rw [hn] at hlv hlc hlen hi
  subst hlv
  have HN := Lib.hid hn
  clear hn
  have H0 := Lib.hid (show HeapAt w g fv (.slice (some ⟨r, 0, none⟩) n cap) es p ∧ UpOK lt es i from ⟨h, hup⟩)
  clear h hup
  go_enter Try.func58, Try.ntmps58
  go_wp2_with fail
  go_loopw [1] (fun s wr => ∃ (k : Nat) (fs : List (Int × Int)), k < n ∧ s = .int .i64 k ∧ Hid (fs.length = n) ∧ Hid (HeapAt wr g fv (.slice (some ⟨r, 0, none⟩) n cap) fs p) ∧ Hid (UpOK lt fs k) ∧ Hid (fs.Perm es) ∧ Hid (Keeps (fun b => r = b) w wr))
    (fun s _ => (intOf s).toNat)
  case atStart => exact ⟨i, es, hi, rfl, HN, Lib.hid H0.out.1, Lib.hid H0.out.2, Lib.hid (List.Perm.refl _), Lib.hid (Keeps.refl _ _)⟩
  case round =>
    obtain ⟨k, fs, hk, rfl, HL, HH, HU, HP, HK⟩ := hrel
    by_cases hk0 : k = 0
    · subst hk0
      go_wp2_with fail
      go_end0
      exact ⟨rfl, fs, HH.out, up_stop0 HU.out, HP.out, HK.out.mono (fun b _ e => by simp [Value.ownBlock, e])⟩
    · obtain ⟨q, hq⟩ : ∃ q, (k - 1) / 2 = q := ⟨_, rfl⟩
      have hqk : q < k := by omega
      have hqI : ((k : Int) - 1) / 2 = (q : Int) := by omega
      have HQ := Lib.hid hq
      have HQI := Lib.hid hqI
      have hk1 : (0 : Int) < (k : Int) := by omega
      have hk2 : (1 : Int) ≤ (k : Int) := by omega
      clear hq hqI
      obtain ⟨b, hb⟩ : ∃ b, lt (atE fs k) (atE fs q) = b := ⟨_, rfl⟩
      have HB := Lib.hid hb
      have cb := fun (q' : Int) (e : q' = (q : Int)) => (show Calls Try.prog 78 #[.pointer (some ⟨g, 0, none⟩), .int .i64 k, .int .i64 q'] wr fun e w' => e = .returned (.bool b) ∧ Below wr.heap.size wr w' from by
        rw [e, ← hb]; exact B wr g _ fs p HH.out k q (by rw [HL.out]; exact hk) (by rw [HL.out]; omega))
      clear hb
      cases b
      · go_wp2_with (first | (go_at_call 78; refine (cb _ HQI.out).mono ?_; rintro e w' ⟨rfl, hbel⟩; have BE := Lib.hid hbel; clear hbel))
        go_end0
        exact ⟨rfl, fs, HH.out.below BE.out, up_stop HU.out (by rw [HQ.out]; exact HB.out), HP.out, (HK.out.trans (Keeps.of_below BE.out)).mono (fun b _ e => by simp [Value.ownBlock, e])⟩
      · go_wp2_with (first | (go_at_call 78; refine (cb _ HQI.out).mono ?_; rintro e w' ⟨rfl, hbel⟩; have BE := Lib.hid hbel; clear hbel))
        rw [HQI.out]
        have H1 := HH.out.below BE.out
        have hk' : k < fs.length := by rw [HL.out]; exact hk
        have hq' : q < fs.length := by rw [HL.out]; omega
        obtain ⟨c0, c1, c2⟩ := H1.cell
        have H2 := H1
        rw [← HL.out] at H2
        obtain ⟨fk1, fk2⟩ := flat_at hk'
        obtain ⟨fq1, fq2⟩ := flat_at hq'
        have dk1 := H2.row.cellAt (k * 2) (by omega)
        have dk2 := H2.row.cellAt (k * 2 + 1) (by omega)
        have dq1 := H2.row.cellAt (q * 2) (by omega)
        have dq2 := H2.row.cellAt (q * 2 + 1) (by omega)
        rw [fk1] at dk1
        rw [fk2] at dk2
        rw [fq1] at dq1
        rw [fq2] at dq2
        have zk1 := H2.row.frozenAt (k * 2)
        have zk2 := H2.row.frozenAt (k * 2 + 1)
        have zq1 := H2.row.frozenAt (q * 2)
        have zq2 := H2.row.frozenAt (q * 2 + 1)
        have SW := Lib.hid (heap_swap H2 k q hk' hq')
        clear H1 H2 fk1 fk2 fq1 fq2 c0 c2
        obtain ⟨x1, hx1⟩ : ∃ x, (atE fs k).1 = x := ⟨_, rfl⟩
        obtain ⟨x2, hx2⟩ : ∃ x, (atE fs k).2 = x := ⟨_, rfl⟩
        obtain ⟨y1, hy1⟩ : ∃ x, (atE fs q).1 = x := ⟨_, rfl⟩
        obtain ⟨y2, hy2⟩ : ∃ x, (atE fs q).2 = x := ⟨_, rfl⟩
        rw [hx1] at dk1
        rw [hx2] at dk2
        rw [hy1] at dq1
        rw [hy2] at dq2
        rw [hx1, hx2, hy1, hy2] at SW
        clear hx1 hx2 hy1 hy2 hk' hq'
        have bk : (k : Int) < (n : Int) := by omega
        have bq : (q : Int) < (n : Int) := by omega
        have bq0 : (0 : Int) ≤ (q : Int) := by omega
        have n1 : ¬ k = q := by omega
        have n2 : ¬ q = k := by omega
        have n3 : ¬ k * 2 = q * 2 + 1 := by omega
        have n4 : ¬ q * 2 = k * 2 + 1 := by omega
        have n5 : ¬ k * 2 + 1 = q * 2 := by omega
        have n6 : ¬ q * 2 + 1 = k * 2 := by omega
        go_region
        have KS := Lib.hid (((((HK.out.trans (Keeps.of_below BE.out)).setCell (p := ⟨r, k * 2, none⟩) rfl (.int .i64 y1)).setCell (p := ⟨r, k * 2 + 1, none⟩) rfl (.int .i64 y2)).setCell (p := ⟨r, q * 2, none⟩) rfl (.int .i64 x1)).setCell (p := ⟨r, q * 2 + 1, none⟩) rfl (.int .i64 x2))
        clear dk1 dk2 dq1 dq2 zk1 zk2 zq1 zq2 c1
        generalize World.setCell (World.setCell _ _ _) _ _ = W at *
        go_wp2_with fail
        go_roundw
        case rel =>
          refine ⟨q, swpL fs k q, by omega, rfl, Lib.hid (by rw [swpL_len]; exact HL.out), Lib.hid ?_, Lib.hid ?_, Lib.hid ?_, Lib.hid ?_⟩
          · have := SW.out.drewN 1; rw [HL.out] at this; exact this
          · rw [← HQ.out]; exact up_step O HU.out (by omega) (by rw [HL.out]; exact hk) (by rw [HQ.out]; exact HB.out)
          · exact (perm_swp (by rw [HL.out]; exact hk) (by rw [HL.out]; omega)).trans HP.out
          · exact ⟨KS.out.os, KS.out.tape, KS.out.output, KS.out.size, KS.out.block⟩
        case measure => simp [intOf]; omega
end Go.Proofs.Ytepkmhcchmladaa

/- Contract of Push. -/
namespace Go.Proofs.Ytepkmhcchmladaa
open Go.RowKit
set_option linter.unusedVariables false
set_option linter.unusedSimpArgs false

theorem info85 : (Try.prog.info? 85).map (fun i => (i.zero, i.size, i.bytes)) = some (some (.agg #[.int .i64 0, .int .i64 0]), 2, 16) := by kernel_rfl

/-- What a push leaves: a heap with one entry more; only the heap's own blocks may have turned. -/
def Pushed (lt : (Int × Int) → (Int × Int) → Bool) (w : World) (g : Nat) (fv lv : Value) (es : List (Int × Int)) (p v : Int) (e : Ending) (w' : World) : Prop :=
  e = .returned (.tuple #[]) ∧ ∃ lv' es', HeapAt w' g fv lv' es' (p + 1) ∧ IsHeap lt es' ∧ es'.Perm ((v, p) :: es) ∧ Keeps (fun b => b = g ∨ lv.ownBlock = some b) w w' ∧ ∀ b, lv'.ownBlock = some b → lv.ownBlock = some b ∨ w.heap.size ≤ b

theorem Keeps.then {N M : Nat → Prop} {a b c : World} (h : Keeps N a b) (k : Keeps M b c) (hm : ∀ i, i < a.heap.size → M i → N i) : Keeps N a c :=
  ⟨k.os.trans h.os, k.tape.trans h.tape, k.output.trans h.output, Nat.le_trans h.size k.size, fun i hi hn => (k.block i (Nat.lt_of_lt_of_le hi h.size) (fun e => hn (hm i hi e))).trans (h.block i hi hn)⟩
theorem Keeps.drew {N : Nat → Prop} {a b : World} (h : Keeps N a b) : Keeps N a b.drew := ⟨h.os, h.tape, h.output, h.size, h.block⟩
theorem Keeps.drewN {N : Nat → Prop} {a b : World} (h : Keeps N a b) (n : Nat) : Keeps N a (b.drewN n) := ⟨h.os, h.tape, h.output, h.size, h.block⟩
theorem blk_put1 {w : World} {g : Nat} {a b c u : Value} {t : TypeId} (h : w.heap[g]? = some (.cells #[a, b, c] t (0, 0))) : (w.setCell ⟨g, 1, none⟩ u).heap[g]? = some (.cells #[a, u, c] t (0, 0)) := by
  rw [heap_setCell_same w g 1 _ t u h]; rfl
theorem blk_put2 {w : World} {g : Nat} {a b c u : Value} {t : TypeId} (h : w.heap[g]? = some (.cells #[a, b, c] t (0, 0))) : (w.setCell ⟨g, 2, none⟩ u).heap[g]? = some (.cells #[a, b, u] t (0, 0)) := by
  rw [heap_setCell_same w g 2 _ t u h]; rfl

set_option maxRecDepth 100000 in
set_option maxHeartbeats 4000000 in
theorem push_calls {fv : Value} {lt : (Int × Int) → (Int × Int) → Bool} (O : Ord lt) (B : BeforeIs fv lt) {w : World} {g : Nat} {lv : Value} {es : List (Int × Int)} {p : Int} (h : HeapAt w g fv lv es p) (v : Int) (hh : IsHeap lt es) (hlen : es.length + 1 ≤ 1000000) (hp0 : 0 ≤ p) (hp1 : p ≤ 1000000) :
    Calls Try.prog 32 #[.pointer (some ⟨g, 0, none⟩), .int .i64 v] w (Pushed lt w g fv lv es p v) := by
  obtain ⟨i0, hi, hz0, hz1, hz2⟩ := info_parts info85
  have I := Lib.hid hi
  have Z0 := Lib.hid hz0
  have Z1 := Lib.hid hz1
  have Z2 := Lib.hid hz2
  clear hi hz0 hz1 hz2
  obtain ⟨c0, c1, c2⟩ := h.cell
  have hgl := h.lt
  have ag := h.ne
  have f1 : w.frozen? ⟨g, 1, none⟩ = false := by simp [World.frozen?, h.blk]
  have H0 := Lib.hid h
  clear h c0
  go_enter Try.func32, Try.ntmps32
  go_wp2_with fail
  go_region_law ((refine step_append_lies _ (by rfl) _ _ _ (by rfl) 0 85 i0 _ 2 16 Try.underlying81 I.out Z0.out Z1.out Z2.out rfl (by omega) lv es.length (flat es) (by rfl) ((H0.out.row.alloc _).drew) ⟨w.heap.size, 0, none⟩ 1 1 [.int .i64 v, .int .i64 p] (by rfl) (by rfl) (World.news_of_block (cs := #[.int .i64 v, .int .i64 p]) (t := 85) (fr := (0, 0)) (heap_alloc_new w _)) (by simp [Value.oneCell']) (by omega) (by unfold maxLen; omega) (by omega) (by simp) (w.heap.size + 1) (by simp) ?_; intro gg cap w1 hown1 hgrow hat hlt; have e1 : w1.cell? ⟨g, 1, none⟩ = some lv := (by rw [hgrow.cell_far _ (by simp; omega) (Ne.symm ag)]; go_simp); have e2 : w1.frozen? ⟨g, 1, none⟩ = false := (by rw [hgrow.frozen_far _ (by simp; omega) (Ne.symm ag)]; go_simp)))
  all_goals
    have hx : w.heap.size ≤ w1.heap.size := by have := hgrow.size; simp at this; omega
    have G1 : w1.heap[g]? = some (.cells #[fv, lv, .int .i64 p] 83 (0, 0)) := by
      rw [hgrow.block g (by simp; omega) (Ne.symm ag)]
      exact (Below.heap_alloc w _ g hgl).trans H0.out.blk
    have hgg : gg ≠ g := by
      rcases hat with e | e
      · intro e'; subst e'; exact ag e
      · omega
    have KP : Keeps (fun b => b = g ∨ lv.ownBlock = some b) w w1 := ((Keeps.refl _ w).alloc _).drew.trans (Keeps.of_grown (N := fun b => b = g ∨ lv.ownBlock = some b) hgrow (fun k hk => .inr hk))
    have HK : Hid (Keeps (fun b => b = g ∨ lv.ownBlock = some b) w ((w1.setCell ⟨g, 1, none⟩ (.slice (some ⟨gg, 0, none⟩) (es.length + 1) cap)).setCell ⟨g, 2, none⟩ (.int .i64 (p + 1)))) := Lib.hid ((KP.setCell (p := ⟨g, 1, none⟩) (.inl rfl) _).setCell (p := ⟨g, 2, none⟩) (.inl rfl) _)
    have HH : Hid (HeapAt ((w1.setCell ⟨g, 1, none⟩ (.slice (some ⟨gg, 0, none⟩) (es.length + 1) cap)).setCell ⟨g, 2, none⟩ (.int .i64 (p + 1))) g fv (.slice (some ⟨gg, 0, none⟩) (es.length + 1) cap) (es ++ [(v, p)]) (p + 1)) := by
      refine Lib.hid ⟨blk_put2 (blk_put1 G1), ?_, fun e => hgg (by simpa [Value.ownBlock] using e)⟩
      have r2 := owns_keeps (N := fun b => b = g) hown1 (((Keeps.refl (fun b => b = g) w1).setCell (p := ⟨g, 1, none⟩) rfl (.slice (some ⟨gg, 0, none⟩) (es.length + 1) cap)).setCell (p := ⟨g, 2, none⟩) rfl (.int .i64 (p + 1))) (fun b hb e => hgg (by simp [Value.ownBlock] at hb; omega))
      rw [flat_append, List.length_append]
      exact r2
    have HAT : Hid (lv.ownBlock = some gg ∨ gg = w.heap.size + 1) := Lib.hid hat
    have e3 : w1.cell? ⟨g, 2, none⟩ = some (.int .i64 p) := by rw [cell_of_row w1 g 2 _ 83 (0, 0) G1]; rfl
    have e4 : w1.frozen? ⟨g, 2, none⟩ = false := by simp [World.frozen?, G1]
    clear hown1 hgrow hat G1 KP c1 c2 f1
    go_wp2_with (first | (go_at_call 58; refine (up_calls O B HH.out es.length (by simp) (up_start hh (v, p)) (by simp; omega)).mono ?_; rintro e w2 ⟨rfl, es', hA, hB, hC, hD⟩))
    go_end0
    refine ⟨rfl, _, es', hA, hB, hC.trans List.perm_append_comm, HK.out.then hD (fun b hb e => ?_), fun b hb => ?_⟩
    · simp only [Value.ownBlock, Option.some.injEq] at e
      rcases HAT.out with e' | e'
      · exact .inr (by rw [e', e])
      · omega
    · simp only [Value.ownBlock, Option.some.injEq] at hb
      rcases HAT.out with e' | e'
      · exact .inl (by rw [e', hb])
      · exact .inr (by omega)
end Go.Proofs.Ytepkmhcchmladaa

/- Contract of Push, of cursors. Written by mkhc.py. -/
namespace Go.Proofs.Ytepkmhcchmladaa.Cu
open Go.RowKit
set_option linter.unusedVariables false
set_option linter.unusedSimpArgs false

theorem info111 : (Try.prog.info? 111).map (fun i => (i.zero, i.size, i.bytes)) = some (some (.agg #[.pointer none, .int .i64 0, .slice none 0 0, .int .i64 0]), 4, 48) := by kernel_rfl

/-- What a push leaves: a heap with one entry more; only the heap's own blocks may have turned. -/
def Pushed (lt : CE → CE → Bool) (w : World) (g : Nat) (fv lv : Value) (es : List CE) (p : Int) (v : CV) (e : Ending) (w' : World) : Prop :=
  e = .returned (.tuple #[]) ∧ ∃ lv' es', HeapAt w' g fv lv' es' (p + 1) ∧ IsHeap lt es' ∧ es'.Perm ((v, p) :: es) ∧ Keeps (fun b => b = g ∨ lv.ownBlock = some b) w w' ∧ ∀ b, lv'.ownBlock = some b → lv.ownBlock = some b ∨ w.heap.size ≤ b

set_option maxRecDepth 100000 in
set_option maxHeartbeats 4000000 in
theorem push_calls {fv : Value} {lt : CE → CE → Bool} (O : Ord lt) (B : BeforeIs fv lt) {w : World} {g : Nat} {lv : Value} {es : List CE} {p : Int} (h : HeapAt w g fv lv es p) (v : CV) (hv : Rd1 w g lv.ownBlock v.2) (hh : IsHeap lt es) (hlen : es.length + 1 ≤ 1000000) (hp0 : 0 ≤ p) (hp1 : p ≤ 1000000) :
    Calls Try.prog 79 #[.pointer (some ⟨g, 0, none⟩), cuV v] w (Pushed lt w g fv lv es p v) := by
  obtain ⟨i0, hi, hz0, hz1, hz2⟩ := info_parts info111
  have I := Lib.hid hi
  have Z0 := Lib.hid hz0
  have Z1 := Lib.hid hz1
  have Z2 := Lib.hid hz2
  clear hi hz0 hz1 hz2
  have H0 := Lib.hid h
  have HV := Lib.hid hv
  have ag := h.ne
  clear h hv
  unfold cuV
  go_enter Try.func79, Try.ntmps79
  go_wp2_with fail
  have B0 := Lib.hid ((Below.refl w.heap.size w).alloc (Nat.le_refl _) (.cells #[.pointer v.1.1, .int .i64 v.1.2, .slice v.2.1 v.2.2.1.length v.2.2.2] 90))
  have H1 := Lib.hid (H0.out.below B0.out)
  have HV1 := Lib.hid (HV.out.keeps (N := fun _ => False) (Keeps.of_below B0.out) (fun _ _ h => h))
  have VB : Hid (∀ q, v.2.1 = some q → q.block < w.heap.size) := Lib.hid (fun q hq => (HV.out.2.2.2 q hq).1)
  have EB : Hid (∀ e ∈ es, ∀ q, e.1.2.1 = some q → q.block < w.heap.size) := Lib.hid (fun e he q hq => (H0.out.rd e he).2.2.2 q hq |>.1)
  have hs0 : w.heap.size ≤ (w.alloc (.cells #[.pointer v.1.1, .int .i64 v.1.2, .slice v.2.1 v.2.2.1.length v.2.2.2] 90)).heap.size := by simp
  have cb0 : (w.alloc (.cells #[.pointer v.1.1, .int .i64 v.1.2, .slice v.2.1 v.2.2.1.length v.2.2.2] 90)).cell? ⟨w.heap.size, 0, none⟩ = some (.pointer v.1.1) := by go_simp
  have cb1 : (w.alloc (.cells #[.pointer v.1.1, .int .i64 v.1.2, .slice v.2.1 v.2.2.1.length v.2.2.2] 90)).cell? ⟨w.heap.size, 1, none⟩ = some (.int .i64 v.1.2) := by go_simp
  have cb2 : (w.alloc (.cells #[.pointer v.1.1, .int .i64 v.1.2, .slice v.2.1 v.2.2.1.length v.2.2.2] 90)).cell? ⟨w.heap.size, 2, none⟩ = some (.slice v.2.1 v.2.2.1.length v.2.2.2) := by go_simp
  generalize World.alloc w _ = w0 at *
  obtain ⟨bx, hbx⟩ : ∃ x, w.heap.size = x := ⟨_, rfl⟩
  have HBX := Lib.hid hbx
  rw [hbx] at cb0 cb1 cb2 hs0 VB EB ⊢
  clear hbx
  have hbl : bx < w0.heap.size := World.block_lt_of_cell? w0 ⟨bx, 0, none⟩ cb0
  obtain ⟨c0, c1, c2⟩ := H1.out.cell
  have hgl := H1.out.lt
  have f1 : w0.frozen? ⟨g, 1, none⟩ = false := by simp [World.frozen?, H1.out.blk]
  clear c0
  go_region_law ((refine step_append_lies _ (by rfl) _ _ _ (by rfl) 0 111 i0 _ 4 48 Try.underlying106 I.out Z0.out Z1.out Z2.out rfl (by omega) lv es.length (flat es) (by rfl) ((H1.out.row.alloc _).drew) ⟨w0.heap.size, 0, none⟩ 1 1 [.pointer v.1.1, .int .i64 v.1.2, .slice v.2.1 v.2.2.1.length v.2.2.2, .int .i64 p] (by rfl) (by rfl) (World.news_of_block (cs := #[.pointer v.1.1, .int .i64 v.1.2, .slice v.2.1 v.2.2.1.length v.2.2.2, .int .i64 p]) (t := 111) (fr := (0, 0)) (heap_alloc_new w0 _)) (by simp [Value.oneCell']) (by omega) (by unfold maxLen; omega) (by omega) (by simp) (w0.heap.size + 1) (by simp) ?_; intro gg cap w1 hown1 hgrow hat hlt; have e1 : w1.cell? ⟨g, 1, none⟩ = some lv := (by rw [hgrow.cell_far _ (by simp; omega) (Ne.symm ag)]; go_simp); have e2 : w1.frozen? ⟨g, 1, none⟩ = false := (by rw [hgrow.frozen_far _ (by simp; omega) (Ne.symm ag)]; go_simp)))
  all_goals
    have hx : w0.heap.size ≤ w1.heap.size := by have := hgrow.size; simp at this; omega
    have G1 : w1.heap[g]? = some (.cells #[fv, lv, .int .i64 p] 108 (0, 0)) := by
      rw [hgrow.block g (by simp; omega) (Ne.symm ag)]
      exact (Below.heap_alloc w0 _ g hgl).trans H1.out.blk
    have hgg : gg ≠ g := by
      rcases hat with e | e
      · intro e'; subst e'; exact ag e
      · omega
    have KP0 : Keeps (fun b => b = g ∨ lv.ownBlock = some b) w0 w1 := (((Keeps.refl _ w0).alloc _).drew.trans (Keeps.of_grown (N := fun b => b = g ∨ lv.ownBlock = some b) hgrow (fun k hk => .inr hk)))
    have KP1 : Keeps (fun b => b = g ∨ lv.ownBlock = some b) w0 ((w1.setCell ⟨g, 1, none⟩ (.slice (some ⟨gg, 0, none⟩) (es.length + 1) cap)).setCell ⟨g, 2, none⟩ (.int .i64 (p + 1))) := (KP0.setCell (p := ⟨g, 1, none⟩) (.inl rfl) _).setCell (p := ⟨g, 2, none⟩) (.inl rfl) _
    have HK : Hid (Keeps (fun b => b = g ∨ lv.ownBlock = some b) w ((w1.setCell ⟨g, 1, none⟩ (.slice (some ⟨gg, 0, none⟩) (es.length + 1) cap)).setCell ⟨g, 2, none⟩ (.int .i64 (p + 1)))) := Lib.hid ((Keeps.of_below B0.out).trans KP1)
    have HAT : Hid (lv.ownBlock = some gg ∨ gg = w0.heap.size + 1) := Lib.hid hat
    have HH : Hid (HeapAt ((w1.setCell ⟨g, 1, none⟩ (.slice (some ⟨gg, 0, none⟩) (es.length + 1) cap)).setCell ⟨g, 2, none⟩ (.int .i64 (p + 1))) g fv (.slice (some ⟨gg, 0, none⟩) (es.length + 1) cap) (es ++ [(v, p)]) (p + 1)) := by
      refine Lib.hid ⟨blk_put2 (blk_put1 G1), ?_, fun e => hgg (by simpa [Value.ownBlock] using e), ?_⟩
      · have r2 := owns_keeps (N := fun b => b = g) hown1 (((Keeps.refl (fun b => b = g) w1).setCell (p := ⟨g, 1, none⟩) rfl (.slice (some ⟨gg, 0, none⟩) (es.length + 1) cap)).setCell (p := ⟨g, 2, none⟩) rfl (.int .i64 (p + 1))) (fun b hb e => hgg (by simp [Value.ownBlock] at hb; omega))
        rw [flat_append, List.length_append]
        exact r2
      · have main : ∀ x : RV, Rd1 w0 g lv.ownBlock x → (∀ q, x.1 = some q → q.block < bx) → Rd1 ((w1.setCell ⟨g, 1, none⟩ (.slice (some ⟨gg, 0, none⟩) (es.length + 1) cap)).setCell ⟨g, 2, none⟩ (.int .i64 (p + 1))) g (Value.slice (some ⟨gg, 0, none⟩) (es.length + 1) cap).ownBlock x := fun x hx hb => by
          have h9 := hx.keeps KP1 (fun q hq hN => by
            have := hx.2.2.2 q hq
            rcases hN with e | e
            · exact this.2.1 e
            · exact this.2.2 e)
          refine ⟨h9.1, h9.2.1, h9.2.2.1, fun q hq => ⟨(h9.2.2.2 q hq).1, (h9.2.2.2 q hq).2.1, fun e => ?_⟩⟩
          simp only [Value.ownBlock, Option.some.injEq] at e
          rcases HAT.out with e' | e'
          · exact (hx.2.2.2 q hq).2.2 (by rw [e', e])
          · have := hb q hq; omega
        intro e he
        rcases List.mem_append.1 he with h' | h'
        · exact main _ (H1.out.rd e h') (EB.out e h')
        · obtain rfl := List.mem_singleton.1 h'
          exact main _ HV1.out VB.out
    have e3 : w1.cell? ⟨g, 2, none⟩ = some (.int .i64 p) := by rw [cell_of_row w1 g 2 _ 108 (0, 0) G1]; rfl
    have e4 : w1.frozen? ⟨g, 2, none⟩ = false := by simp [World.frozen?, G1]
    clear hown1 hgrow hat G1 KP0 KP1 c1 c2 f1 cb0 cb1 cb2
    go_wp2_with (first | (go_at_call 94; refine (up_calls O B HH.out es.length (by simp) (up_start hh (v, p)) (by simp; omega)).mono ?_; rintro e w2 ⟨rfl, es', hA, hB, hC, hD⟩))
    go_end0
    refine ⟨rfl, _, es', hA, hB, hC.trans List.perm_append_comm, HK.out.then hD (fun b hb e => ?_), fun b hb => ?_⟩
    · simp only [Value.ownBlock, Option.some.injEq] at e
      rcases HAT.out with e' | e'
      · exact .inr (by rw [e', e])
      · rw [HBX.out] at hb; omega
    · simp only [Value.ownBlock, Option.some.injEq] at hb
      rcases HAT.out with e' | e'
      · exact .inl (by rw [e', hb])
      · exact .inr (by rw [HBX.out]; omega)
end Go.Proofs.Ytepkmhcchmladaa.Cu
