/- Contract of leaders. -/
import Derived.Test.YtfpocoaddmgakaaFive
import Derived.Deep.Cut
import Derived.Deep.DeepCutAuto
namespace Go.Proofs.Ytfpocoaddmgakaa
open Go.RowKit
set_option linter.unusedVariables false
set_option linter.unusedSimpArgs false

/-- make under a name that the walk does not open. -/
noncomputable def mkM (t : TypeId) (l c : Value) : Sem Value := Instr.makeSlice t l c
theorem mk_rule (t : TypeId) (l c : Value) : Instr.makeSlice t l c = mkM t l c := rfl
attribute [local go_sem ↓] mk_rule

/-- The search before its first step. -/
def TS.made : TS := ⟨0, fun _ => 0, fun _ => 0, fun _ => 0, fun _ => 0, [], []⟩
def LeadStart (w : World) (ea : Option Addr) (ec n : Nat) (v : Value) (w' : World) : Prop := ∃ G bt bl bn bd, v = .pointer (some ⟨G, 0, none⟩) ∧ SM w.heap.size w' G (.slice ea n ec) n bt bl bn bd (.slice none 0 0) (.slice none 0 0) TS.made ∧ Below w.heap.size w w'

theorem cells8 {w : World} {g : Nat} {a b c d e f h i : Value} {t : TypeId} (hb : w.heap[g]? = some (.cells #[a, b, c, d, e, f, h, i] t (0, 0))) : w.cell? ⟨g, 0, none⟩ = some a ∧ w.cell? ⟨g, 1, none⟩ = some b ∧ w.cell? ⟨g, 2, none⟩ = some c ∧ w.cell? ⟨g, 3, none⟩ = some d ∧ w.cell? ⟨g, 4, none⟩ = some e ∧ w.cell? ⟨g, 5, none⟩ = some f ∧ w.cell? ⟨g, 6, none⟩ = some h ∧ w.cell? ⟨g, 7, none⟩ = some i ∧ ∀ k, w.frozen? ⟨g, k, none⟩ = false := by
  refine ⟨?_, ?_, ?_, ?_, ?_, ?_, ?_, ?_, fun k => frozen_of_row w g k _ _ hb⟩ <;> (rw [cell_of_row w g _ _ t (0, 0) hb]; rfl)
theorem put8 {w : World} {g : Nat} {a b c d e f h i a' b' c' d' e' f' h' i' : Value} {t : TypeId} (hb : w.heap[g]? = some (.cells #[a, b, c, d, e, f, h, i] t (0, 0))) : ((((((((w.setCell ⟨g, 0, none⟩ a').setCell ⟨g, 1, none⟩ b').setCell ⟨g, 2, none⟩ c').setCell ⟨g, 3, none⟩ d').setCell ⟨g, 4, none⟩ e').setCell ⟨g, 5, none⟩ f').setCell ⟨g, 6, none⟩ h').setCell ⟨g, 7, none⟩ i').heap[g]? = some (.cells #[a', b', c', d', e', f', h', i'] t (0, 0)) := by
  have h1 : (w.setCell ⟨g, 0, none⟩ a').heap[g]? = some (.cells #[a', b, c, d, e, f, h, i] t (0, 0)) := by rw [heap_setCell_same _ g 0 _ t a' hb]; simp
  have h2 : ((w.setCell ⟨g, 0, none⟩ a').setCell ⟨g, 1, none⟩ b').heap[g]? = some (.cells #[a', b', c, d, e, f, h, i] t (0, 0)) := by rw [heap_setCell_same _ g 1 _ t b' h1]; simp
  have h3 : (((w.setCell ⟨g, 0, none⟩ a').setCell ⟨g, 1, none⟩ b').setCell ⟨g, 2, none⟩ c').heap[g]? = some (.cells #[a', b', c', d, e, f, h, i] t (0, 0)) := by rw [heap_setCell_same _ g 2 _ t c' h2]; simp
  have h4 : ((((w.setCell ⟨g, 0, none⟩ a').setCell ⟨g, 1, none⟩ b').setCell ⟨g, 2, none⟩ c').setCell ⟨g, 3, none⟩ d').heap[g]? = some (.cells #[a', b', c', d', e, f, h, i] t (0, 0)) := by rw [heap_setCell_same _ g 3 _ t d' h3]; simp
  have h5 : (((((w.setCell ⟨g, 0, none⟩ a').setCell ⟨g, 1, none⟩ b').setCell ⟨g, 2, none⟩ c').setCell ⟨g, 3, none⟩ d').setCell ⟨g, 4, none⟩ e').heap[g]? = some (.cells #[a', b', c', d', e', f, h, i] t (0, 0)) := by rw [heap_setCell_same _ g 4 _ t e' h4]; simp
  have h6 : ((((((w.setCell ⟨g, 0, none⟩ a').setCell ⟨g, 1, none⟩ b').setCell ⟨g, 2, none⟩ c').setCell ⟨g, 3, none⟩ d').setCell ⟨g, 4, none⟩ e').setCell ⟨g, 5, none⟩ f').heap[g]? = some (.cells #[a', b', c', d', e', f', h, i] t (0, 0)) := by rw [heap_setCell_same _ g 5 _ t f' h5]; simp
  have h7 : (((((((w.setCell ⟨g, 0, none⟩ a').setCell ⟨g, 1, none⟩ b').setCell ⟨g, 2, none⟩ c').setCell ⟨g, 3, none⟩ d').setCell ⟨g, 4, none⟩ e').setCell ⟨g, 5, none⟩ f').setCell ⟨g, 6, none⟩ h').heap[g]? = some (.cells #[a', b', c', d', e', f', h', i] t (0, 0)) := by rw [heap_setCell_same _ g 6 _ t h' h6]; simp
  have h8 : ((((((((w.setCell ⟨g, 0, none⟩ a').setCell ⟨g, 1, none⟩ b').setCell ⟨g, 2, none⟩ c').setCell ⟨g, 3, none⟩ d').setCell ⟨g, 4, none⟩ e').setCell ⟨g, 5, none⟩ f').setCell ⟨g, 6, none⟩ h').setCell ⟨g, 7, none⟩ i').heap[g]? = some (.cells #[a', b', c', d', e', f', h', i'] t (0, 0)) := by rw [heap_setCell_same _ g 7 _ t i' h7]; simp
  exact h8
theorem madeZ (n : Nat) : madeCells #[Value.int .i64 0] n = arr n fun _ => 0 := by
  apply Array.toList_inj.1
  rw [made_ints]
  unfold arr
  apply List.ext_getElem?
  intro i
  by_cases hi : i < n <;> simp [hi]
theorem lead_start {w w1 : World} {ea : Option Addr} {ec n ba bb bc bd ny : Nat} {Z : Obj} (hZ : Obj.cells (madeCells #[Value.int .i64 0] n) 3 = Z) (h : Five w.heap.size Z (.cells #[.slice none 0 0, .int .i64 0, .slice none 0 0, .slice none 0 0, .slice none 0 0, .slice none 0 0, .slice none 0 0, .slice none 0 0] 45) w w1 (true, ba) (true, bb) (true, bc) (true, bd) (true, ny)) :
    LeadStart w ea ec n (.pointer (some ⟨ny, 0, none⟩)) ((((((((w1.setCell ⟨ny, 0, none⟩ (.slice ea n ec)).setCell ⟨ny, 1, none⟩ (.int .i64 0)).setCell ⟨ny, 2, none⟩ (sl ba n)).setCell ⟨ny, 3, none⟩ (sl bb n)).setCell ⟨ny, 4, none⟩ (sl bc n)).setCell ⟨ny, 5, none⟩ (sl bd n)).setCell ⟨ny, 6, none⟩ (.slice none 0 0)).setCell ⟨ny, 7, none⟩ (.slice none 0 0)) := by
  obtain ⟨na, la, ka⟩ := h.ka rfl
  obtain ⟨nb, lb, kb⟩ := h.kb rfl
  obtain ⟨nc, lc, kc⟩ := h.kc rfl
  obtain ⟨nd, ld, kd⟩ := h.kd rfl
  obtain ⟨nz, lz, kz⟩ := h.ky rfl
  dsimp only at na la ka nb lb kb nc lc kc nd ld kd nz lz kz
  have ab : ba ≠ bb := h.ab rfl rfl
  have ac : ba ≠ bc := h.ac rfl rfl
  have ad : ba ≠ bd := h.ad rfl rfl
  have ay : ba ≠ ny := h.ay rfl rfl
  have xbc : bb ≠ bc := h.bc rfl rfl
  have xbd : bb ≠ bd := h.bd rfl rfl
  have xby : bb ≠ ny := h.bo rfl rfl
  have xcd : bc ≠ bd := h.cd rfl rfl
  have xcy : bc ≠ ny := h.cy rfl rfl
  have xdy : bd ≠ ny := h.dy rfl rfl
  have hk : Keeps (fun b => b = ny) w1 ((((((((w1.setCell ⟨ny, 0, none⟩ (.slice ea n ec)).setCell ⟨ny, 1, none⟩ (.int .i64 0)).setCell ⟨ny, 2, none⟩ (sl ba n)).setCell ⟨ny, 3, none⟩ (sl bb n)).setCell ⟨ny, 4, none⟩ (sl bc n)).setCell ⟨ny, 5, none⟩ (sl bd n)).setCell ⟨ny, 6, none⟩ (.slice none 0 0)).setCell ⟨ny, 7, none⟩ (.slice none 0 0)) :=
    ((((((((Keeps.refl (fun b => b = ny) w1).setCell (p := ⟨ny, 0, none⟩) rfl _).setCell (p := ⟨ny, 1, none⟩) rfl _).setCell (p := ⟨ny, 2, none⟩) rfl _).setCell (p := ⟨ny, 3, none⟩) rfl _).setCell (p := ⟨ny, 4, none⟩) rfl _).setCell (p := ⟨ny, 5, none⟩) rfl _).setCell (p := ⟨ny, 6, none⟩) rfl _).setCell (p := ⟨ny, 7, none⟩) rfl _
  have hz : ∀ b : Nat, w1.heap[b]? = some Z → w1.heap[b]? = some (Obj.cells (arr n fun _ => 0) 3 (0, 0)) := fun b e => by rw [e, ← hZ, madeZ]
  refine ⟨ny, ba, bb, bc, bd, rfl, ⟨put8 kz, (hk.block ba la ay).trans (hz _ ka), (hk.block bb lb xby).trans (hz _ kb), (hk.block bc lc xcy).trans (hz _ kc), (hk.block bd ld xdy).trans (hz _ kd), World.ownsRow_nil _ _ _ _, World.ownsRow_nil _ _ _ _, ?_, ?_, (fun b e => by cases e), (fun b e => by cases e), (fun b e => by cases e)⟩, ?_⟩
  · simp; omega
  · intro b hb; simp at hb; omega
  · exact h.be.trans (hk.below h.hN (fun b e => by omega))

set_option maxRecDepth 100000 in
set_option maxHeartbeats 8000000 in
theorem leaders_calls {w : World} {ea : Option Addr} {ec : Nat} {K : List RV} (hE : RRow w ea K) (hdeg : ∀ i, i < K.length → (edgesOf K i).length ≤ 100000) (hn : K.length ≤ 100000) :
    Calls Try.prog 14 #[.slice ea K.length ec] w fun e w' => ∃ b L, e = .returned (sl b K.length) ∧ w'.heap[b]? = some (.cells (arr K.length L) 3 (0, 0)) ∧ LeadsOf K.length (edgesOf K) L ∧ w.heap.size ≤ b ∧ Below w.heap.size w w' := by
  obtain ⟨n, hKn⟩ : ∃ n, K.length = n := ⟨_, rfl⟩
  rw [hKn]
  obtain ⟨B, hB⟩ : ∃ B, w.heap.size = B := ⟨_, rfl⟩
  rw [hB]
  have HB := Lib.hid hB
  clear hB
  have hmk : ∀ W, (mkM 22 (.int .i64 n) (.int .i64 n)).run Try.prog W = .ok (.slice (some ⟨W.heap.size, 0, none⟩) n n) (W.alloc (.cells (madeCells #[.int .i64 0] n) 3)) := fun W => run_make_row' 22 3 (.int .i64 0) 8 Try.underlying22 info3 rfl .i64 .i64 n (by omega) (by omega) W
  obtain ⟨Z, hZ⟩ : ∃ Z, Obj.cells (madeCells #[.int .i64 0] n) 3 = Z := ⟨_, rfl⟩
  rw [hZ] at hmk
  have HZ := Lib.hid hZ
  have HE := Lib.hid hE
  have HDEG := Lib.hid hdeg
  have HKN := Lib.hid hKn
  rw [hKn] at hn
  clear hZ hE hdeg hKn
  go_enter Try.func14, Try.ntmps14
  go_upto_region 1 with fail
  go_cut [3] from 20 (fun v wx => LeadStart w ea ec n v wx)
  case first =>
    refine wp_region_any (by kernel_rfl) ?_
    refine wpAny_take (i := 0) (oi := ⟨some 6, _, _, _, _, _⟩) (v := .slice ea n ec) rfl (by kernel_rfl) (by kernel_rfl) (by kernel_rfl) (fun _ _ _ h => h) (Or.inl ⟨by rfl, fun w => by go_simp⟩) ?_
    try simp only [Act.put, List.setIfInBounds_toArray, List.set_cons_zero, List.set_cons_succ]
    refine wpAny_take (i := 1) (oi := ⟨some 7, _, _, _, _, _⟩) (v := .slice ea n ec) rfl (by kernel_rfl) (by kernel_rfl) (by kernel_rfl) (fun _ _ _ h => h) (Or.inl ⟨by rfl, fun w => by go_simp⟩) ?_
    try simp only [Act.put, List.setIfInBounds_toArray, List.set_cons_zero, List.set_cons_succ]
    refine wpAny_take (i := 2) (oi := ⟨some 8, _, _, _, _, _⟩) (v := .int .i64 n) rfl (by kernel_rfl) (by kernel_rfl) (by kernel_rfl) (fun _ _ _ h => h) (Or.inl ⟨by rfl, fun w => by go_simp⟩) ?_
    try simp only [Act.put, List.setIfInBounds_toArray, List.set_cons_zero, List.set_cons_succ]
    refine wpAny_take (i := 4) (oi := ⟨some 10, _, _, _, _, _⟩) (v := .slice ea n ec) rfl (by kernel_rfl) (by kernel_rfl) (by kernel_rfl) (fun _ _ _ h => h) (Or.inl ⟨by rfl, fun w => by go_simp⟩) ?_
    try simp only [Act.put, List.setIfInBounds_toArray, List.set_cons_zero, List.set_cons_succ]
    refine wpAny_take (i := 5) (oi := ⟨some 11, _, _, _, _, _⟩) (v := .int .i64 n) rfl (by kernel_rfl) (by kernel_rfl) (by kernel_rfl) (fun _ _ _ h => h) (Or.inl ⟨by rfl, fun w => by go_simp⟩) ?_
    try simp only [Act.put, List.setIfInBounds_toArray, List.set_cons_zero, List.set_cons_succ]
    refine wpAny_take (i := 7) (oi := ⟨some 13, _, _, _, _, _⟩) (v := .slice ea n ec) rfl (by kernel_rfl) (by kernel_rfl) (by kernel_rfl) (fun _ _ _ h => h) (Or.inl ⟨by rfl, fun w => by go_simp⟩) ?_
    try simp only [Act.put, List.setIfInBounds_toArray, List.set_cons_zero, List.set_cons_succ]
    refine wpAny_take (i := 8) (oi := ⟨some 14, _, _, _, _, _⟩) (v := .int .i64 n) rfl (by kernel_rfl) (by kernel_rfl) (by kernel_rfl) (fun _ _ _ h => h) (Or.inl ⟨by rfl, fun w => by go_simp⟩) ?_
    try simp only [Act.put, List.setIfInBounds_toArray, List.set_cons_zero, List.set_cons_succ]
    refine wpAny_take (i := 10) (oi := ⟨some 16, _, _, _, _, _⟩) (v := .slice ea n ec) rfl (by kernel_rfl) (by kernel_rfl) (by kernel_rfl) (fun _ _ _ h => h) (Or.inl ⟨by rfl, fun w => by go_simp⟩) ?_
    try simp only [Act.put, List.setIfInBounds_toArray, List.set_cons_zero, List.set_cons_succ]
    refine wpAny_take (i := 11) (oi := ⟨some 17, _, _, _, _, _⟩) (v := .int .i64 n) rfl (by kernel_rfl) (by kernel_rfl) (by kernel_rfl) (fun _ _ _ h => h) (Or.inl ⟨by rfl, fun w => by go_simp⟩) ?_
    try simp only [Act.put, List.setIfInBounds_toArray, List.set_cons_zero, List.set_cons_succ]
    have F0 : Five w.heap.size Z (.cells #[.slice none 0 0, .int .i64 0, .slice none 0 0, .slice none 0 0, .slice none 0 0, .slice none 0 0, .slice none 0 0, .slice none 0 0] 45) w { w with drawn := w.drawn + 1 } (false, 0) (false, 0) (false, 0) (false, 0) (false, 0) :=
      ⟨Mk.ok.fresh _ _ _ _, Mk.ok.fresh _ _ _ _, Mk.ok.fresh _ _ _ _, Mk.ok.fresh _ _ _ _, Mk.ok.fresh _ _ _ _, Mk.off.fresh _ _, Mk.off.fresh _ _, Mk.off.fresh _ _, Mk.off.fresh _ _, Mk.off.fresh _ _, Mk.off.fresh _ _, Mk.off.fresh _ _, Mk.off.fresh _ _, Mk.off.fresh _ _, Mk.off.fresh _ _, ⟨rfl, rfl, rfl, Nat.le_refl _, fun _ _ => rfl⟩, Nat.le_refl _⟩
    refine five_orders w.heap.size n Z _ w (fun x1 x2 x3 x4 x5 => { tmps := #[.slice ea n ec, undef, .slice none 0 0, x5, undef, undef, .slice ea n ec, .slice ea n ec, .int .i64 n, x1, .slice ea n ec, .int .i64 n, x2, .slice ea n ec, .int .i64 n, x3, .slice ea n ec, .int .i64 n, x4, undef, undef, undef, undef, undef, undef, undef, undef, undef, undef, undef, undef, undef, undef, undef, undef, undef, undef, undef, undef, undef, undef, undef, undef, undef, undef, undef], defers := [] }) ?hr ?h3 ?h6 ?h9 ?h12 ?h14 ?hend 5 (false, 0) (false, 0) (false, 0) (false, 0) (false, 0) _ rfl F0
    case hr => intro a b c d y; cases a <;> cases b <;> cases c <;> cases d <;> cases y <;> intro h <;> first | (exact absurd h (by decide)) | kernel_rfl
    case h3 =>
      intro x1 x2 x3 x4 x5 W K hK
      refine wpOp_step (o := ⟨some 9, _, _, _, _, _⟩) rfl (fun K' hK' => ?_)
      go_simp
      refine hK' _ _ ?_
      exact hK
    case h6 =>
      intro x1 x2 x3 x4 x5 W K hK
      refine wpOp_step (o := ⟨some 12, _, _, _, _, _⟩) rfl (fun K' hK' => ?_)
      go_simp
      refine hK' _ _ ?_
      exact hK
    case h9 =>
      intro x1 x2 x3 x4 x5 W K hK
      refine wpOp_step (o := ⟨some 15, _, _, _, _, _⟩) rfl (fun K' hK' => ?_)
      go_simp
      refine hK' _ _ ?_
      exact hK
    case h12 =>
      intro x1 x2 x3 x4 x5 W K hK
      refine wpOp_step (o := ⟨some 18, _, _, _, _, _⟩) rfl (fun K' hK' => ?_)
      go_simp
      refine hK' _ _ ?_
      exact hK
    case h14 =>
      intro x1 x2 x3 x4 x5 W K hK
      refine wpOp_step (o := ⟨some 3, _, _, _, _, _⟩) rfl (fun K' hK' => ?_)
      go_simp
      refine hK' _ _ ?_
      exact hK
    case hend =>
      rintro ba bb bc bd ⟨y, ny⟩ w1 h
      cases y
      · have bx : Mk.box (false, ny) = undef := rfl
        simp only [bx]
        refine wpAny_take (i := 13) (oi := ⟨some 19, _, _, _, _, _⟩) (v := .agg #[.slice ea n ec, .int .i64 0, sl ba n, sl bb n, sl bc n, sl bd n, .slice none 0 0, .slice none 0 0]) rfl (by kernel_rfl) (by kernel_rfl) (by kernel_rfl) (fun _ _ _ h => h) (Or.inl ⟨by rfl, fun w => by go_simp⟩) ?_
        try simp only [Act.put, List.setIfInBounds_toArray, List.set_cons_zero, List.set_cons_succ]
        refine wpAny_ready (rs := [14]) (by kernel_rfl) (by simp) ?_
        refine AllReady.cons (o := ⟨some 3, _, _, _, _, _⟩) rfl (fun K hK => ?_) AllReady.nil
        go_simp
        refine hK _ _ ?_
        clear hK K
        have h' := h.put_y
        generalize hny : w1.heap.size = ny at *
        generalize World.alloc w1 _ = w1 at *
        obtain ⟨_, hyl, hyb⟩ := h'.ky rfl
        obtain ⟨q0, q1, q2, q3, q4, q5, q6, q7, qf⟩ := cells8 hyb
        have f0 := qf 0
        have f1 := qf 1
        have f2 := qf 2
        have f3 := qf 3
        have f4 := qf 4
        have f5 := qf 5
        have f6 := qf 6
        have f7 := qf 7
        have FV := Lib.hid h'
        clear hyb hyl h h' qf
        refine wpAny_ready (rs := [15]) (by kernel_rfl) (by simp) ?_
        refine AllReady.cons (o := ⟨none, _, _, _, _, _⟩) rfl (fun K hK => ?_) AllReady.nil
        go_simp
        refine hK _ _ ?_
        refine wpAny_done (by kernel_rfl) ?_ _
        clear q0 q1 q2 q3 q4 q5 q6 q7 f0 f1 f2 f3 f4 f5 f6 f7 hK K
        go_wp2_with fail
        go_meet
        exact lead_start HZ.out FV.out
      · have bx : Mk.box (true, ny) = .pointer (some ⟨ny, 0, none⟩) := rfl
        simp only [bx]
        have h' := h
        refine wpAny_take (i := 13) (oi := ⟨some 19, _, _, _, _, _⟩) (v := .agg #[.slice ea n ec, .int .i64 0, sl ba n, sl bb n, sl bc n, sl bd n, .slice none 0 0, .slice none 0 0]) rfl (by kernel_rfl) (by kernel_rfl) (by kernel_rfl) (fun _ _ _ h => h) (Or.inl ⟨by rfl, fun w => by go_simp⟩) ?_
        try simp only [Act.put, List.setIfInBounds_toArray, List.set_cons_zero, List.set_cons_succ]
        obtain ⟨_, hyl, hyb⟩ := h'.ky rfl
        obtain ⟨q0, q1, q2, q3, q4, q5, q6, q7, qf⟩ := cells8 hyb
        have f0 := qf 0
        have f1 := qf 1
        have f2 := qf 2
        have f3 := qf 3
        have f4 := qf 4
        have f5 := qf 5
        have f6 := qf 6
        have f7 := qf 7
        have FV := Lib.hid h'
        clear hyb hyl h h' qf
        refine wpAny_ready (rs := [15]) (by kernel_rfl) (by simp) ?_
        refine AllReady.cons (o := ⟨none, _, _, _, _, _⟩) rfl (fun K hK => ?_) AllReady.nil
        go_simp
        refine hK _ _ ?_
        refine wpAny_done (by kernel_rfl) ?_ _
        clear q0 q1 q2 q3 q4 q5 q6 q7 f0 f1 f2 f3 f4 f5 f6 f7 hK K
        go_wp2_with fail
        go_meet
        exact lead_start HZ.out FV.out
  case rest =>
    obtain ⟨G, bt, bl, bn, bd, rfl, hSM, hbe⟩ := hcut
    rw [HB.out] at hSM hbe
    have S0 : Hid (SM B wc G (.slice ea n ec) n bt bl bn bd (.slice none 0 0) (.slice none 0 0) { TS.made with lead := fun u => if u < 0 then -1 else 0 }) := Lib.hid hSM
    have BE := Lib.hid hbe
    clear hSM hbe hmk
    go_wp2_with fail
    go_loopw [22, 4] (fun s4 s5 wr => ∃ k : Nat, k ≤ n ∧ s4 = .int .i64 k ∧ Hid (SM B wr G (.slice ea n ec) n bt bl bn bd (.slice none 0 0) (.slice none 0 0) { TS.made with lead := fun u => if u < k then -1 else 0 }) ∧ Hid (Below B w wr)) (fun s4 _ _ => n - (intOf s4).toNat)
    case atStart => exact ⟨0, Nat.zero_le _, rfl, S0, BE⟩
    case round =>
      obtain ⟨k, hk, rfl, HS, HBe⟩ := hrel
      clear S0 BE
      by_cases hlt : k < n
      · have k0 : (0 : Int) ≤ (k : Int) := by omega
        have k1 : (k : Int) < (n : Int) := by omega
        have c5 := HS.out.boxCell.2.2.2.2.2.1
        have d1 := (HS.out.leadAt hlt).1
        have d2 := (HS.out.leadAt hlt).2
        have R := HS.out.leadSet k (-1)
        have HS2 : Hid (SM B (wr.setCell ⟨bd, k, none⟩ (.int .i64 (-1))) G (.slice ea n ec) n bt bl bn bd (.slice none 0 0) (.slice none 0 0) { TS.made with lead := fun u => if u < k + 1 then -1 else 0 }) := Lib.hid (by
          have e : (upd (fun u => if u < k then (-1 : Int) else 0) k (-1)) = fun u => if u < k + 1 then -1 else 0 := by
            funext u
            by_cases e : u = k
            · subst e; rw [upd_same, if_pos (by omega)]
            · rw [upd_ne _ _ e]
              by_cases h : u < k
              · rw [if_pos h, if_pos (by omega)]
              · rw [if_neg h, if_neg (by omega)]
          rw [← e]; exact R.1)
        have HB2 := Lib.hid (HBe.out.trans R.2)
        clear R HS HBe
        go_wp2_with fail
        go_roundw
        case rel => exact ⟨k + 1, by omega, by go_num, HS2, HB2⟩
        case measure => simp [intOf]; omega
      · obtain rfl : k = n := by omega
        have S1 : Hid (SM B wr G (.slice ea k ec) k bt bl bn bd (.slice none 0 0) (.slice none 0 0) TS.zero) := Lib.hid ⟨HS.out.blk, HS.out.t, HS.out.l, HS.out.x, HS.out.d.trans (by rw [arr_congr (g := TS.zero.lead) (fun i hi => by show (if i < k then (-1 : Int) else 0) = -1; rw [if_pos hi])]), HS.out.p, HS.out.o, HS.out.ne, HS.out.base, HS.out.pn, HS.out.on, HS.out.po⟩
        have F1 : Hid (∃ s', FromS B G (.slice ea k ec) k bt bl bn bd (edgesOf K) (fun u => u < 0) wr s' ∧ s'.path = []) := Lib.hid ⟨TS.zero, ⟨Step.zero _ _, ⟨_, _, S1.out⟩, fun u hu => absurd hu (by omega)⟩, rfl⟩
        clear HS S1
        go_wp2_with fail
        go_loopw [32, 5] (fun s4 s5 wv => ∃ j : Nat, j ≤ k ∧ s4 = .int .i64 j ∧ Hid (∃ s', FromS B G (.slice ea k ec) k bt bl bn bd (edgesOf K) (fun u => u < j) wv s' ∧ s'.path = []) ∧ Hid (Below B w wv)) (fun s4 _ _ => k - (intOf s4).toNat)
        case atStart => exact ⟨0, Nat.zero_le _, rfl, F1, HBe⟩
        case round =>
          obtain ⟨j, hj, rfl, HF, HBv⟩ := hrel
          clear F1 HBe
          obtain ⟨s2, ⟨hs2, ⟨pv2, ov2, hm2⟩, hd2⟩, hp2⟩ := HF.out
          by_cases hlj : j < k
          · have j0 : (0 : Int) ≤ (j : Int) := by omega
            have j1 : (j : Int) < (k : Int) := by omega
            have c2 := hm2.boxCell.2.2.1
            have t1 := (hm2.turnAt hlj).1
            by_cases ht : s2.turn j = 0
            · have q1 : (((s2.turn j : Nat) : Int) == 0) = true := by rw [ht]; rfl
              have cf := from_calls HE.out HB.out HBv.out HDEG.out (by rw [HKN.out]; exact hs2) (by rw [HKN.out]; exact hm2) hp2 (by rw [HKN.out]; exact hlj) ht (by rw [HKN.out]; exact hn)
              rw [HKN.out] at cf
              have HD := Lib.hid hd2
              clear hs2 hm2 hd2 hp2 ht HF
              go_wp2_with (first | (go_at_call 20; refine cf.mono ?_; rintro e w3 ⟨rfl, ⟨s3, ⟨f1, f2, f3⟩, f4⟩, hbb⟩; have F3 : Hid (∃ s', FromS B G (.slice ea k ec) k bt bl bn bd (edgesOf K) (fun u => u < j + 1) w3 s' ∧ s'.path = []) := (Lib.hid ⟨s3, ⟨f1, f2, fun u hu => f3 u (by rcases Nat.lt_or_ge u j with h | h; exact .inl (HD.out u h); exact .inr (by omega))⟩, f4⟩); have HBB := Lib.hid hbb; clear f1 f2 f3 f4 hbb))
              go_roundw
              case rel => exact ⟨j + 1, by omega, by go_num, F3, HBB⟩
              case measure => simp [intOf]; omega
            · have q1 : (((s2.turn j : Nat) : Int) == 0) = false := by rw [beq_eq_false_iff_ne]; omega
              have F3 : Hid (∃ s', FromS B G (.slice ea k ec) k bt bl bn bd (edgesOf K) (fun u => u < j + 1) wr s' ∧ s'.path = []) := Lib.hid ⟨s2, ⟨hs2, ⟨_, _, hm2⟩, fun u hu => by
                by_cases e : u = j
                · rw [e]; exact ht
                · exact hd2 u (by omega)⟩, hp2⟩
              clear hs2 hm2 hd2 hp2 ht HF
              go_wp2_with fail
              go_roundw
              case rel => exact ⟨j + 1, by omega, by go_num, F3, HBv⟩
              case measure => simp [intOf]; omega
          · obtain rfl : j = k := by omega
            have c5 := hm2.boxCell.2.2.2.2.2.1
            have R := Lib.hid (show ∃ b L, sl bd j = sl b j ∧ wr.heap[b]? = some (Obj.cells (arr j L) 3 (0, 0)) ∧ LeadsOf j (edgesOf K) L ∧ B ≤ b ∧ Below B w wr from ⟨bd, s2.lead, rfl, hm2.d, hs2.leads hp2 hd2, hm2.ge.2.2.2.2, HBv.out⟩)
            clear hs2 hm2 hd2 hp2 HF HBv
            go_wp2_with fail
            go_ret
            obtain ⟨b, L, e1, e2, e3, e4, e5⟩ := R.out
            exact ⟨b, L, congrArg Ending.returned e1, e2, e3, e4, e5⟩
end Go.Proofs.Ytfpocoaddmgakaa
