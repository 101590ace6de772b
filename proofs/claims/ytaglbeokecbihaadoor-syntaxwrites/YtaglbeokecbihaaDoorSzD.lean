/- The variables of parts. Written by mkszd.py. -/
import Derived.Test.YtaglbeokecbihaaDoorSzC
import Derived.Test.YtaglbeokecbihaaDoorSyL
namespace Go.Proofs.YtaglbeokecbihaaDoor
open Go.RowKit
set_option linter.unusedVariables false
set_option linter.unusedSimpArgs false

def pVars : Pt → List ByteArray
  | .pos _ l => varsL l
  | .neg _ l => varsL l
  | .cmp _ ta tb => varsL [ta, tb]
  | .letx nm x => nm :: xVars x
attribute [local go_sem ↓] app_rule
set_option maxRecDepth 100000 in
set_option maxHeartbeats 2000000 in
theorem nam_pos (pred : ByteArray) (a : Option Addr) (l : List Tm) (c : Nat) (N : Nat) (w : World) (hN : N ≤ w.heap.size) (hr : TmRow N w a l) (hl : l.length ≤ 1000) : Calls Tryd.prog 28 #[.agg #[.int .i64 0, .string pred, .slice a l.length c, .int .i64 0, .int .i64 0, .string ⟨#[]⟩, .int .i64 0, .int .i64 0, .string ⟨#[]⟩, .int .i64 0, .string ⟨#[]⟩, .int .i64 0, .string ⟨#[]⟩, .int .i64 0, .int .i64 0, .slice none 0 0]] w (SsRet w (varsL l)) := by
  obtain ⟨n, hn⟩ : ∃ n, l.length = n := ⟨_, rfl⟩
  obtain ⟨M, hM⟩ : ∃ M, w.heap.size = M := ⟨_, rfl⟩
  have HM := Lib.hid hM
  have B1 : Hid (Below M w (w.alloc (.cells #[.int .i64 0, .string pred, .slice a n c, .int .i64 0, .int .i64 0, .string ⟨#[]⟩, .int .i64 0, .int .i64 0, .string ⟨#[]⟩, .int .i64 0, .string ⟨#[]⟩, .int .i64 0, .string ⟨#[]⟩, .int .i64 0, .int .i64 0, .slice none 0 0] 59))) := Lib.hid (by rw [← hM]; exact (Below.refl _ _).alloc (Nat.le_refl _) _)
  have S1 : Hid ((w.alloc (.cells #[.int .i64 0, .string pred, .slice a n c, .int .i64 0, .int .i64 0, .string ⟨#[]⟩, .int .i64 0, .int .i64 0, .string ⟨#[]⟩, .int .i64 0, .string ⟨#[]⟩, .int .i64 0, .string ⟨#[]⟩, .int .i64 0, .int .i64 0, .slice none 0 0] 59)).heap.size = M + 1) := Lib.hid (by simp [hM])
  have CA := Lib.hid (names_calls a l c N (w.alloc (.cells #[.int .i64 0, .string pred, .slice a n c, .int .i64 0, .int .i64 0, .string ⟨#[]⟩, .int .i64 0, .int .i64 0, .string ⟨#[]⟩, .int .i64 0, .string ⟨#[]⟩, .int .i64 0, .string ⟨#[]⟩, .int .i64 0, .int .i64 0, .slice none 0 0] 59)) (by rw [S1.out]; omega) (hr.on (B1.out.mono (by omega))) hl)
  rw [hn] at CA ⊢
  clear hM hr hN hn hl
  have MX := HM.out
  go_enter Tryd.func28, Tryd.ntmps28
  go_wp2_with fail
  refine CA.out.mono ?_
  generalize World.alloc w _ = W1 at *
  rintro e w4 ⟨v4, rfl, ho4, hb4⟩
  have RS : Hid (SO w.heap.size w4 v4 (varsL l) ∧ Below w.heap.size w w4) := Lib.hid (by rw [HM.out]; exact ⟨ho4.mono (by rw [S1.out]; omega), B1.out.trans (hb4.mono (by rw [S1.out]; omega))⟩)
  clear ho4 hb4 CA
  go_wp2_with fail
  go_ret
  exact ⟨v4, rfl, RS.out.1, RS.out.2⟩
set_option maxRecDepth 100000 in
set_option maxHeartbeats 2000000 in
theorem nam_neg (pred : ByteArray) (a : Option Addr) (l : List Tm) (c : Nat) (N : Nat) (w : World) (hN : N ≤ w.heap.size) (hr : TmRow N w a l) (hl : l.length ≤ 1000) : Calls Tryd.prog 28 #[.agg #[.int .i64 1, .string pred, .slice a l.length c, .int .i64 0, .int .i64 0, .string ⟨#[]⟩, .int .i64 0, .int .i64 0, .string ⟨#[]⟩, .int .i64 0, .string ⟨#[]⟩, .int .i64 0, .string ⟨#[]⟩, .int .i64 0, .int .i64 0, .slice none 0 0]] w (SsRet w (varsL l)) := by
  obtain ⟨n, hn⟩ : ∃ n, l.length = n := ⟨_, rfl⟩
  obtain ⟨M, hM⟩ : ∃ M, w.heap.size = M := ⟨_, rfl⟩
  have HM := Lib.hid hM
  have B1 : Hid (Below M w (w.alloc (.cells #[.int .i64 1, .string pred, .slice a n c, .int .i64 0, .int .i64 0, .string ⟨#[]⟩, .int .i64 0, .int .i64 0, .string ⟨#[]⟩, .int .i64 0, .string ⟨#[]⟩, .int .i64 0, .string ⟨#[]⟩, .int .i64 0, .int .i64 0, .slice none 0 0] 59))) := Lib.hid (by rw [← hM]; exact (Below.refl _ _).alloc (Nat.le_refl _) _)
  have S1 : Hid ((w.alloc (.cells #[.int .i64 1, .string pred, .slice a n c, .int .i64 0, .int .i64 0, .string ⟨#[]⟩, .int .i64 0, .int .i64 0, .string ⟨#[]⟩, .int .i64 0, .string ⟨#[]⟩, .int .i64 0, .string ⟨#[]⟩, .int .i64 0, .int .i64 0, .slice none 0 0] 59)).heap.size = M + 1) := Lib.hid (by simp [hM])
  have CA := Lib.hid (names_calls a l c N (w.alloc (.cells #[.int .i64 1, .string pred, .slice a n c, .int .i64 0, .int .i64 0, .string ⟨#[]⟩, .int .i64 0, .int .i64 0, .string ⟨#[]⟩, .int .i64 0, .string ⟨#[]⟩, .int .i64 0, .string ⟨#[]⟩, .int .i64 0, .int .i64 0, .slice none 0 0] 59)) (by rw [S1.out]; omega) (hr.on (B1.out.mono (by omega))) hl)
  rw [hn] at CA ⊢
  clear hM hr hN hn hl
  have MX := HM.out
  go_enter Tryd.func28, Tryd.ntmps28
  go_wp2_with fail
  refine CA.out.mono ?_
  generalize World.alloc w _ = W1 at *
  rintro e w4 ⟨v4, rfl, ho4, hb4⟩
  have RS : Hid (SO w.heap.size w4 v4 (varsL l) ∧ Below w.heap.size w w4) := Lib.hid (by rw [HM.out]; exact ⟨ho4.mono (by rw [S1.out]; omega), B1.out.trans (hb4.mono (by rw [S1.out]; omega))⟩)
  clear ho4 hb4 CA
  go_wp2_with fail
  go_ret
  exact ⟨v4, rfl, RS.out.1, RS.out.2⟩
set_option maxRecDepth 100000 in
set_option maxHeartbeats 2000000 in
theorem nam_cmp (op : Nat) (ta tb : Tm) (ha : TmOK ta) (hb : TmOK tb) (w : World) : Calls Tryd.prog 28 #[.agg #[.int .i64 2, .string ⟨#[]⟩, .slice none 0 0, .int .i64 op, .int .i64 ta.kind, .string ta.text, .int .i64 ta.n, .int .i64 tb.kind, .string tb.text, .int .i64 tb.n, .string ⟨#[]⟩, .int .i64 0, .string ⟨#[]⟩, .int .i64 0, .int .i64 0, .slice none 0 0]] w (SsRet w (varsL [ta, tb])) := by
  obtain ⟨M, hM⟩ : ∃ M, w.heap.size = M := ⟨_, rfl⟩
  have HM := Lib.hid hM
  have s1 : (w.alloc (.cells #[.int .i64 2, .string ⟨#[]⟩, .slice none 0 0, .int .i64 op, .int .i64 ta.kind, .string ta.text, .int .i64 ta.n, .int .i64 tb.kind, .string tb.text, .int .i64 tb.n, .string ⟨#[]⟩, .int .i64 0, .string ⟨#[]⟩, .int .i64 0, .int .i64 0, .slice none 0 0] 59)).heap.size = M + 1 := by simp [hM]
  have CA := Lib.hid (names_calls _ [ta, tb] 2 _ _ (by simp [hM]) (tm_two ha hb s1) (by simp))
  have B1 : Hid (Below M w ((w.alloc (.cells #[.int .i64 2, .string ⟨#[]⟩, .slice none 0 0, .int .i64 op, .int .i64 ta.kind, .string ta.text, .int .i64 ta.n, .int .i64 tb.kind, .string tb.text, .int .i64 tb.n, .string ⟨#[]⟩, .int .i64 0, .string ⟨#[]⟩, .int .i64 0, .int .i64 0, .slice none 0 0] 59)).alloc (.cells #[.int .i64 ta.kind, .string ta.text, .int .i64 ta.n, .int .i64 tb.kind, .string tb.text, .int .i64 tb.n] 44))) := Lib.hid (by rw [← hM]; exact below2 w _ _)
  have S1 : Hid (((w.alloc (.cells #[.int .i64 2, .string ⟨#[]⟩, .slice none 0 0, .int .i64 op, .int .i64 ta.kind, .string ta.text, .int .i64 ta.n, .int .i64 tb.kind, .string tb.text, .int .i64 tb.n, .string ⟨#[]⟩, .int .i64 0, .string ⟨#[]⟩, .int .i64 0, .int .i64 0, .slice none 0 0] 59)).alloc (.cells #[.int .i64 ta.kind, .string ta.text, .int .i64 ta.n, .int .i64 tb.kind, .string tb.text, .int .i64 tb.n] 44)).heap.size = M + 2) := Lib.hid (by simp [hM])
  clear hM s1 ha hb
  have MX := HM.out
  go_enter Tryd.func28, Tryd.ntmps28
  go_wp2_with fail
  refine CA.out.mono ?_
  generalize World.alloc (World.alloc w _) _ = W1 at *
  rintro e w4 ⟨v4, rfl, ho4, hb4⟩
  have RS : Hid (SO w.heap.size w4 v4 (varsL [ta, tb]) ∧ Below w.heap.size w w4) := Lib.hid (by rw [HM.out]; exact ⟨ho4.mono (by rw [S1.out]; omega), B1.out.trans (hb4.mono (by rw [S1.out]; omega))⟩)
  clear ho4 hb4 CA
  go_wp2_with fail
  go_ret
  exact ⟨v4, rfl, RS.out.1, RS.out.2⟩
set_option maxRecDepth 100000 in
set_option maxHeartbeats 2000000 in
theorem pv_pos (pred : ByteArray) (a : Option Addr) (l : List Tm) (c : Nat) (N : Nat) (w : World) (hN : N ≤ w.heap.size) (hr : TmRow N w a l) (hl : l.length ≤ 1000) : Calls Tryd.prog 27 #[.agg #[.int .i64 0, .string pred, .slice a l.length c, .int .i64 0, .int .i64 0, .string ⟨#[]⟩, .int .i64 0, .int .i64 0, .string ⟨#[]⟩, .int .i64 0, .string ⟨#[]⟩, .int .i64 0, .string ⟨#[]⟩, .int .i64 0, .int .i64 0, .slice none 0 0]] w (SsRet w (varsL l)) := by
  obtain ⟨n, hn⟩ : ∃ n, l.length = n := ⟨_, rfl⟩
  obtain ⟨M, hM⟩ : ∃ M, w.heap.size = M := ⟨_, rfl⟩
  have HM := Lib.hid hM
  have B1 : Hid (Below M w (w.alloc (.cells #[.int .i64 0, .string pred, .slice a n c, .int .i64 0, .int .i64 0, .string ⟨#[]⟩, .int .i64 0, .int .i64 0, .string ⟨#[]⟩, .int .i64 0, .string ⟨#[]⟩, .int .i64 0, .string ⟨#[]⟩, .int .i64 0, .int .i64 0, .slice none 0 0] 59))) := Lib.hid (by rw [← hM]; exact (Below.refl _ _).alloc (Nat.le_refl _) _)
  have S1 : Hid ((w.alloc (.cells #[.int .i64 0, .string pred, .slice a n c, .int .i64 0, .int .i64 0, .string ⟨#[]⟩, .int .i64 0, .int .i64 0, .string ⟨#[]⟩, .int .i64 0, .string ⟨#[]⟩, .int .i64 0, .string ⟨#[]⟩, .int .i64 0, .int .i64 0, .slice none 0 0] 59)).heap.size = M + 1) := Lib.hid (by simp [hM])
  have CA := Lib.hid (atomVars_calls pred a l c N (w.alloc (.cells #[.int .i64 0, .string pred, .slice a n c, .int .i64 0, .int .i64 0, .string ⟨#[]⟩, .int .i64 0, .int .i64 0, .string ⟨#[]⟩, .int .i64 0, .string ⟨#[]⟩, .int .i64 0, .string ⟨#[]⟩, .int .i64 0, .int .i64 0, .slice none 0 0] 59)) (by rw [S1.out]; omega) (hr.on (B1.out.mono (by omega))) hl)
  rw [hn] at CA ⊢
  clear hM hr hN hn hl
  have MX := HM.out
  go_enter Tryd.func27, Tryd.ntmps27
  go_wp2_with fail
  refine CA.out.mono ?_
  generalize World.alloc w _ = W1 at *
  rintro e w4 ⟨v4, rfl, ho4, hb4⟩
  have RS : Hid (SO w.heap.size w4 v4 (varsL l) ∧ Below w.heap.size w w4) := Lib.hid (by rw [HM.out]; exact ⟨ho4.mono (by rw [S1.out]; omega), B1.out.trans (hb4.mono (by rw [S1.out]; omega))⟩)
  clear ho4 hb4 CA
  go_wp2_with fail
  go_ret
  exact ⟨v4, rfl, RS.out.1, RS.out.2⟩
set_option maxRecDepth 100000 in
set_option maxHeartbeats 2000000 in
theorem pv_neg (pred : ByteArray) (a : Option Addr) (l : List Tm) (c : Nat) (N : Nat) (w : World) (hN : N ≤ w.heap.size) (hr : TmRow N w a l) (hl : l.length ≤ 1000) : Calls Tryd.prog 27 #[.agg #[.int .i64 1, .string pred, .slice a l.length c, .int .i64 0, .int .i64 0, .string ⟨#[]⟩, .int .i64 0, .int .i64 0, .string ⟨#[]⟩, .int .i64 0, .string ⟨#[]⟩, .int .i64 0, .string ⟨#[]⟩, .int .i64 0, .int .i64 0, .slice none 0 0]] w (SsRet w (varsL l)) := by
  obtain ⟨n, hn⟩ : ∃ n, l.length = n := ⟨_, rfl⟩
  obtain ⟨M, hM⟩ : ∃ M, w.heap.size = M := ⟨_, rfl⟩
  have HM := Lib.hid hM
  have B1 : Hid (Below M w (w.alloc (.cells #[.int .i64 1, .string pred, .slice a n c, .int .i64 0, .int .i64 0, .string ⟨#[]⟩, .int .i64 0, .int .i64 0, .string ⟨#[]⟩, .int .i64 0, .string ⟨#[]⟩, .int .i64 0, .string ⟨#[]⟩, .int .i64 0, .int .i64 0, .slice none 0 0] 59))) := Lib.hid (by rw [← hM]; exact (Below.refl _ _).alloc (Nat.le_refl _) _)
  have S1 : Hid ((w.alloc (.cells #[.int .i64 1, .string pred, .slice a n c, .int .i64 0, .int .i64 0, .string ⟨#[]⟩, .int .i64 0, .int .i64 0, .string ⟨#[]⟩, .int .i64 0, .string ⟨#[]⟩, .int .i64 0, .string ⟨#[]⟩, .int .i64 0, .int .i64 0, .slice none 0 0] 59)).heap.size = M + 1) := Lib.hid (by simp [hM])
  have CA := Lib.hid (atomVars_calls pred a l c N (w.alloc (.cells #[.int .i64 1, .string pred, .slice a n c, .int .i64 0, .int .i64 0, .string ⟨#[]⟩, .int .i64 0, .int .i64 0, .string ⟨#[]⟩, .int .i64 0, .string ⟨#[]⟩, .int .i64 0, .string ⟨#[]⟩, .int .i64 0, .int .i64 0, .slice none 0 0] 59)) (by rw [S1.out]; omega) (hr.on (B1.out.mono (by omega))) hl)
  rw [hn] at CA ⊢
  clear hM hr hN hn hl
  have MX := HM.out
  go_enter Tryd.func27, Tryd.ntmps27
  go_wp2_with fail
  refine CA.out.mono ?_
  generalize World.alloc w _ = W1 at *
  rintro e w4 ⟨v4, rfl, ho4, hb4⟩
  have RS : Hid (SO w.heap.size w4 v4 (varsL l) ∧ Below w.heap.size w w4) := Lib.hid (by rw [HM.out]; exact ⟨ho4.mono (by rw [S1.out]; omega), B1.out.trans (hb4.mono (by rw [S1.out]; omega))⟩)
  clear ho4 hb4 CA
  go_wp2_with fail
  go_ret
  exact ⟨v4, rfl, RS.out.1, RS.out.2⟩
set_option maxRecDepth 100000 in
set_option maxHeartbeats 2000000 in
theorem pv_cmp (op : Nat) (ta tb : Tm) (ha : TmOK ta) (hb : TmOK tb) (w : World) : Calls Tryd.prog 27 #[.agg #[.int .i64 2, .string ⟨#[]⟩, .slice none 0 0, .int .i64 op, .int .i64 ta.kind, .string ta.text, .int .i64 ta.n, .int .i64 tb.kind, .string tb.text, .int .i64 tb.n, .string ⟨#[]⟩, .int .i64 0, .string ⟨#[]⟩, .int .i64 0, .int .i64 0, .slice none 0 0]] w (SsRet w (varsL [ta, tb])) := by
  obtain ⟨M, hM⟩ : ∃ M, w.heap.size = M := ⟨_, rfl⟩
  have HM := Lib.hid hM
  have s1 : (w.alloc (.cells #[.int .i64 2, .string ⟨#[]⟩, .slice none 0 0, .int .i64 op, .int .i64 ta.kind, .string ta.text, .int .i64 ta.n, .int .i64 tb.kind, .string tb.text, .int .i64 tb.n, .string ⟨#[]⟩, .int .i64 0, .string ⟨#[]⟩, .int .i64 0, .int .i64 0, .slice none 0 0] 59)).heap.size = M + 1 := by simp [hM]
  have CA := Lib.hid (termVars_calls _ [ta, tb] 2 _ _ (by simp [hM]) (tm_two ha hb s1) (by simp))
  have B1 : Hid (Below M w ((w.alloc (.cells #[.int .i64 2, .string ⟨#[]⟩, .slice none 0 0, .int .i64 op, .int .i64 ta.kind, .string ta.text, .int .i64 ta.n, .int .i64 tb.kind, .string tb.text, .int .i64 tb.n, .string ⟨#[]⟩, .int .i64 0, .string ⟨#[]⟩, .int .i64 0, .int .i64 0, .slice none 0 0] 59)).alloc (.cells #[.int .i64 ta.kind, .string ta.text, .int .i64 ta.n, .int .i64 tb.kind, .string tb.text, .int .i64 tb.n] 44))) := Lib.hid (by rw [← hM]; exact below2 w _ _)
  have S1 : Hid (((w.alloc (.cells #[.int .i64 2, .string ⟨#[]⟩, .slice none 0 0, .int .i64 op, .int .i64 ta.kind, .string ta.text, .int .i64 ta.n, .int .i64 tb.kind, .string tb.text, .int .i64 tb.n, .string ⟨#[]⟩, .int .i64 0, .string ⟨#[]⟩, .int .i64 0, .int .i64 0, .slice none 0 0] 59)).alloc (.cells #[.int .i64 ta.kind, .string ta.text, .int .i64 ta.n, .int .i64 tb.kind, .string tb.text, .int .i64 tb.n] 44)).heap.size = M + 2) := Lib.hid (by simp [hM])
  clear hM s1 ha hb
  have MX := HM.out
  go_enter Tryd.func27, Tryd.ntmps27
  go_wp2_with fail
  refine CA.out.mono ?_
  generalize World.alloc (World.alloc w _) _ = W1 at *
  rintro e w4 ⟨v4, rfl, ho4, hb4⟩
  have RS : Hid (SO w.heap.size w4 v4 (varsL [ta, tb]) ∧ Below w.heap.size w w4) := Lib.hid (by rw [HM.out]; exact ⟨ho4.mono (by rw [S1.out]; omega), B1.out.trans (hb4.mono (by rw [S1.out]; omega))⟩)
  clear ho4 hb4 CA
  go_wp2_with fail
  go_ret
  exact ⟨v4, rfl, RS.out.1, RS.out.2⟩
set_option maxRecDepth 100000 in
set_option maxHeartbeats 2000000 in
theorem pv_let (nm : ByteArray) {x : X} {N : Nat} {k1 : Int} {k2 : ByteArray} {k3 k4 : Int} {k5 : Option Addr} {k6 k7 : Nat} {w : World} (hx : XIn N w x ⟨k1, k2, k3, k4, k5, k6, k7⟩) (hN : N ≤ w.heap.size) (hn : x.nodes ≤ 1000) : Calls Tryd.prog 27 #[.agg #[.int .i64 3, .string ⟨#[]⟩, .slice none 0 0, .int .i64 0, .int .i64 0, .string ⟨#[]⟩, .int .i64 0, .int .i64 0, .string ⟨#[]⟩, .int .i64 0, .string nm, .int .i64 k1, .string k2, .int .i64 k3, .int .i64 k4, .slice k5 k6 k7]] w (SsRet w (nm :: xVars x)) := by
  obtain ⟨M, hM⟩ : ∃ M, w.heap.size = M := ⟨_, rfl⟩
  have HM := Lib.hid hM
  have s1 : (w.alloc (.cells #[.int .i64 3, .string ⟨#[]⟩, .slice none 0 0, .int .i64 0, .int .i64 0, .string ⟨#[]⟩, .int .i64 0, .int .i64 0, .string ⟨#[]⟩, .int .i64 0, .string nm, .int .i64 k1, .string k2, .int .i64 k3, .int .i64 k4, .slice k5 k6 k7] 59)).heap.size = M + 1 := by simp [hM]
  have B1 : Hid (Below M w ((w.alloc (.cells #[.int .i64 3, .string ⟨#[]⟩, .slice none 0 0, .int .i64 0, .int .i64 0, .string ⟨#[]⟩, .int .i64 0, .int .i64 0, .string ⟨#[]⟩, .int .i64 0, .string nm, .int .i64 k1, .string k2, .int .i64 k3, .int .i64 k4, .slice k5 k6 k7] 59)).alloc (.cells #[.string nm] 9))) := Lib.hid (by rw [← hM]; exact below2 w _ _)
  have S1 : Hid (((w.alloc (.cells #[.int .i64 3, .string ⟨#[]⟩, .slice none 0 0, .int .i64 0, .int .i64 0, .string ⟨#[]⟩, .int .i64 0, .int .i64 0, .string ⟨#[]⟩, .int .i64 0, .string nm, .int .i64 k1, .string k2, .int .i64 k3, .int .i64 k4, .slice k5 k6 k7] 59)).alloc (.cells #[.string nm] 9)).heap.size = M + 2) := Lib.hid (by simp [hM])
  have CA := Lib.hid (av_all x N M k1 k2 k3 k4 k5 k6 k7 (.slice (some ⟨M + 1, 0, none⟩) 1 1) [nm] _ (hx.on (B1.out.mono (by omega))) (so_one M _ nm s1 (by omega)) (by omega) (by rw [S1.out]; omega) (by simp only [List.length_cons, List.length_nil]; omega))
  clear hM s1 hx hN hn
  have MX := HM.out
  go_enter Tryd.func27, Tryd.ntmps27
  go_wp2_with fail
  refine CA.out.mono ?_
  generalize World.alloc (World.alloc w _) _ = W1 at *
  rintro e w4 ⟨v4, rfl, ho4, hg4, hat4⟩
  have RS : Hid (SO w.heap.size w4 v4 (nm :: xVars x) ∧ Below w.heap.size w w4) := Lib.hid (by rw [HM.out]; exact ⟨ho4, B1.out.grown hg4 (by rw [S1.out]; omega) (fun k hk => by simp only [Value.ownBlock, Option.some.injEq] at hk; omega)⟩)
  clear ho4 hg4 hat4 CA
  go_wp2_with fail
  go_ret
  exact ⟨v4, rfl, RS.out.1, RS.out.2⟩
theorem nlS {M : Nat} {k1 k3 k4 : Int} {k2 nm : ByteArray} {k5 : Option Addr} {k6 k7 : Nat} {w w' : World} (hb : Below M w w') (hs : M + 1 ≤ w'.heap.size) (hz : w'.heap[M]? = some (.cells #[.int .i64 3, .string ⟨#[]⟩, .slice none 0 0, .int .i64 0, .int .i64 0, .string ⟨#[]⟩, .int .i64 0, .int .i64 0, .string ⟨#[]⟩, .int .i64 0, .string nm, .int .i64 k1, .string k2, .int .i64 k3, .int .i64 k4, .slice k5 k6 k7] 59 (0, 0))) : Below M w w' ∧ M + 1 ≤ w'.heap.size ∧ w'.heap[M]? = some (.cells #[.int .i64 3, .string ⟨#[]⟩, .slice none 0 0, .int .i64 0, .int .i64 0, .string ⟨#[]⟩, .int .i64 0, .int .i64 0, .string ⟨#[]⟩, .int .i64 0, .string nm, .int .i64 k1, .string k2, .int .i64 k3, .int .i64 k4, .slice k5 k6 k7] 59 (0, 0)) ∧ w'.cell? ⟨M, 10, none⟩ = some (.string nm) ∧ w'.cell? ⟨M, 11, none⟩ = some (.int .i64 k1) ∧ w'.cell? ⟨M, 12, none⟩ = some (.string k2) ∧ w'.cell? ⟨M, 13, none⟩ = some (.int .i64 k3) ∧ w'.cell? ⟨M, 14, none⟩ = some (.int .i64 k4) ∧ w'.cell? ⟨M, 15, none⟩ = some (.slice k5 k6 k7) :=
  ⟨hb, hs, hz, cellAt (i := 10) hz rfl, cellAt (i := 11) hz rfl, cellAt (i := 12) hz rfl, cellAt (i := 13) hz rfl, cellAt (i := 14) hz rfl, cellAt (i := 15) hz rfl⟩
theorem nlC {M : Nat} {k1 k3 k4 : Int} {k2 nm : ByteArray} {k5 : Option Addr} {k6 k7 : Nat} {w w' w'' : World} (h : Below M w w' ∧ M + 1 ≤ w'.heap.size ∧ w'.heap[M]? = some (.cells #[.int .i64 3, .string ⟨#[]⟩, .slice none 0 0, .int .i64 0, .int .i64 0, .string ⟨#[]⟩, .int .i64 0, .int .i64 0, .string ⟨#[]⟩, .int .i64 0, .string nm, .int .i64 k1, .string k2, .int .i64 k3, .int .i64 k4, .slice k5 k6 k7] 59 (0, 0)) ∧ w'.cell? ⟨M, 10, none⟩ = some (.string nm) ∧ w'.cell? ⟨M, 11, none⟩ = some (.int .i64 k1) ∧ w'.cell? ⟨M, 12, none⟩ = some (.string k2) ∧ w'.cell? ⟨M, 13, none⟩ = some (.int .i64 k3) ∧ w'.cell? ⟨M, 14, none⟩ = some (.int .i64 k4) ∧ w'.cell? ⟨M, 15, none⟩ = some (.slice k5 k6 k7)) (hb : Below w'.heap.size w' w'') : Below M w w'' ∧ M + 1 ≤ w''.heap.size ∧ w''.heap[M]? = some (.cells #[.int .i64 3, .string ⟨#[]⟩, .slice none 0 0, .int .i64 0, .int .i64 0, .string ⟨#[]⟩, .int .i64 0, .int .i64 0, .string ⟨#[]⟩, .int .i64 0, .string nm, .int .i64 k1, .string k2, .int .i64 k3, .int .i64 k4, .slice k5 k6 k7] 59 (0, 0)) ∧ w''.cell? ⟨M, 10, none⟩ = some (.string nm) ∧ w''.cell? ⟨M, 11, none⟩ = some (.int .i64 k1) ∧ w''.cell? ⟨M, 12, none⟩ = some (.string k2) ∧ w''.cell? ⟨M, 13, none⟩ = some (.int .i64 k3) ∧ w''.cell? ⟨M, 14, none⟩ = some (.int .i64 k4) ∧ w''.cell? ⟨M, 15, none⟩ = some (.slice k5 k6 k7) :=
  nlS (h.1.trans (hb.mono (by have := h.2.1; omega))) (Nat.le_trans h.2.1 hb.size) ((hb.block M (by have := h.2.1; omega)).trans h.2.2.1)
theorem nlG {M : Nat} {k1 k3 k4 : Int} {k2 nm : ByteArray} {k5 : Option Addr} {k6 k7 : Nat} {w w' w'' : World} {q : Option Nat} (h : Below M w w' ∧ M + 1 ≤ w'.heap.size ∧ w'.heap[M]? = some (.cells #[.int .i64 3, .string ⟨#[]⟩, .slice none 0 0, .int .i64 0, .int .i64 0, .string ⟨#[]⟩, .int .i64 0, .int .i64 0, .string ⟨#[]⟩, .int .i64 0, .string nm, .int .i64 k1, .string k2, .int .i64 k3, .int .i64 k4, .slice k5 k6 k7] 59 (0, 0)) ∧ w'.cell? ⟨M, 10, none⟩ = some (.string nm) ∧ w'.cell? ⟨M, 11, none⟩ = some (.int .i64 k1) ∧ w'.cell? ⟨M, 12, none⟩ = some (.string k2) ∧ w'.cell? ⟨M, 13, none⟩ = some (.int .i64 k3) ∧ w'.cell? ⟨M, 14, none⟩ = some (.int .i64 k4) ∧ w'.cell? ⟨M, 15, none⟩ = some (.slice k5 k6 k7)) (hg : w'.grownBy w'' q) (hq : ∀ b, q = some b → M < b) : Below M w w'' ∧ M + 1 ≤ w''.heap.size ∧ w''.heap[M]? = some (.cells #[.int .i64 3, .string ⟨#[]⟩, .slice none 0 0, .int .i64 0, .int .i64 0, .string ⟨#[]⟩, .int .i64 0, .int .i64 0, .string ⟨#[]⟩, .int .i64 0, .string nm, .int .i64 k1, .string k2, .int .i64 k3, .int .i64 k4, .slice k5 k6 k7] 59 (0, 0)) ∧ w''.cell? ⟨M, 10, none⟩ = some (.string nm) ∧ w''.cell? ⟨M, 11, none⟩ = some (.int .i64 k1) ∧ w''.cell? ⟨M, 12, none⟩ = some (.string k2) ∧ w''.cell? ⟨M, 13, none⟩ = some (.int .i64 k3) ∧ w''.cell? ⟨M, 14, none⟩ = some (.int .i64 k4) ∧ w''.cell? ⟨M, 15, none⟩ = some (.slice k5 k6 k7) :=
  nlS (h.1.grown hg (by have := h.2.1; omega) (fun b hb => by have := hq b hb; omega)) (Nat.le_trans h.2.1 hg.size) ((hg.block M (by have := h.2.1; omega) (fun e => by have := hq M e.symm; omega)).trans h.2.2.1)
theorem nlA {M : Nat} {k1 k3 k4 : Int} {k2 nm : ByteArray} {k5 : Option Addr} {k6 k7 : Nat} {w w' : World} (o : Obj) (h : Below M w w' ∧ M + 1 ≤ w'.heap.size ∧ w'.heap[M]? = some (.cells #[.int .i64 3, .string ⟨#[]⟩, .slice none 0 0, .int .i64 0, .int .i64 0, .string ⟨#[]⟩, .int .i64 0, .int .i64 0, .string ⟨#[]⟩, .int .i64 0, .string nm, .int .i64 k1, .string k2, .int .i64 k3, .int .i64 k4, .slice k5 k6 k7] 59 (0, 0)) ∧ w'.cell? ⟨M, 10, none⟩ = some (.string nm) ∧ w'.cell? ⟨M, 11, none⟩ = some (.int .i64 k1) ∧ w'.cell? ⟨M, 12, none⟩ = some (.string k2) ∧ w'.cell? ⟨M, 13, none⟩ = some (.int .i64 k3) ∧ w'.cell? ⟨M, 14, none⟩ = some (.int .i64 k4) ∧ w'.cell? ⟨M, 15, none⟩ = some (.slice k5 k6 k7)) : Below M w (w'.alloc o) ∧ M + 1 ≤ (w'.alloc o).heap.size ∧ (w'.alloc o).heap[M]? = some (.cells #[.int .i64 3, .string ⟨#[]⟩, .slice none 0 0, .int .i64 0, .int .i64 0, .string ⟨#[]⟩, .int .i64 0, .int .i64 0, .string ⟨#[]⟩, .int .i64 0, .string nm, .int .i64 k1, .string k2, .int .i64 k3, .int .i64 k4, .slice k5 k6 k7] 59 (0, 0)) ∧ (w'.alloc o).cell? ⟨M, 10, none⟩ = some (.string nm) ∧ (w'.alloc o).cell? ⟨M, 11, none⟩ = some (.int .i64 k1) ∧ (w'.alloc o).cell? ⟨M, 12, none⟩ = some (.string k2) ∧ (w'.alloc o).cell? ⟨M, 13, none⟩ = some (.int .i64 k3) ∧ (w'.alloc o).cell? ⟨M, 14, none⟩ = some (.int .i64 k4) ∧ (w'.alloc o).cell? ⟨M, 15, none⟩ = some (.slice k5 k6 k7) := nlC h ((Below.refl _ _).alloc (Nat.le_refl _) o)
set_option maxRecDepth 100000 in
set_option maxHeartbeats 2000000 in
theorem nam_let (nm : ByteArray) {x : X} {N : Nat} {k1 : Int} {k2 : ByteArray} {k3 k4 : Int} {k5 : Option Addr} {k6 k7 : Nat} {w : World} (hx : XIn N w x ⟨k1, k2, k3, k4, k5, k6, k7⟩) (hN : N ≤ w.heap.size) (hn : x.nodes ≤ 1000) : Calls Tryd.prog 28 #[.agg #[.int .i64 3, .string ⟨#[]⟩, .slice none 0 0, .int .i64 0, .int .i64 0, .string ⟨#[]⟩, .int .i64 0, .int .i64 0, .string ⟨#[]⟩, .int .i64 0, .string nm, .int .i64 k1, .string k2, .int .i64 k3, .int .i64 k4, .slice k5 k6 k7]] w (SsRet w (nm :: xVars x)) := by
  obtain ⟨M, hM⟩ : ∃ M, w.heap.size = M := ⟨_, rfl⟩
  have HM := Lib.hid hM
  have CI : Hid (∀ v, Below M w v → Calls Tryd.prog 30 #[.agg #[.int .i64 k1, .string k2, .int .i64 k3, .int .i64 k4, .slice k5 k6 k7]] v (SsL M v (xVars x))) := Lib.hid (fun v h => (in_all x N _ _ _ _ _ _ _ v (hx.on (h.mono (by omega))) (by have := h.size; omega) hn).mono fun e w' h9 => h9.low (by have := h.size; omega))
  have LL : Hid ([nm].length + (xVars x).length ≤ 100000) := Lib.hid (by have := xVars_len x; simp only [List.length_cons, List.length_nil]; omega)
  have B0 : Hid (Below M w (w.alloc (.cells #[.int .i64 3, .string ⟨#[]⟩, .slice none 0 0, .int .i64 0, .int .i64 0, .string ⟨#[]⟩, .int .i64 0, .int .i64 0, .string ⟨#[]⟩, .int .i64 0, .string nm, .int .i64 k1, .string k2, .int .i64 k3, .int .i64 k4, .slice k5 k6 k7] 59))) := Lib.hid (by rw [← hM]; exact (Below.refl _ _).alloc (Nat.le_refl _) _)
  have Z0 : Hid ((w.alloc (.cells #[.int .i64 3, .string ⟨#[]⟩, .slice none 0 0, .int .i64 0, .int .i64 0, .string ⟨#[]⟩, .int .i64 0, .int .i64 0, .string ⟨#[]⟩, .int .i64 0, .string nm, .int .i64 k1, .string k2, .int .i64 k3, .int .i64 k4, .slice k5 k6 k7] 59)).heap[M]? = some (.cells #[.int .i64 3, .string ⟨#[]⟩, .slice none 0 0, .int .i64 0, .int .i64 0, .string ⟨#[]⟩, .int .i64 0, .int .i64 0, .string ⟨#[]⟩, .int .i64 0, .string nm, .int .i64 k1, .string k2, .int .i64 k3, .int .i64 k4, .slice k5 k6 k7] 59 (0, 0))) := Lib.hid (by rw [← hM]; exact box16 w _ _)
  have S0 : Hid ((w.alloc (.cells #[.int .i64 3, .string ⟨#[]⟩, .slice none 0 0, .int .i64 0, .int .i64 0, .string ⟨#[]⟩, .int .i64 0, .int .i64 0, .string ⟨#[]⟩, .int .i64 0, .string nm, .int .i64 k1, .string k2, .int .i64 k3, .int .i64 k4, .slice k5 k6 k7] 59)).heap.size = M + 1) := Lib.hid (by simp [hM])
  clear hM hx hN hn
  generalize xVars x = tx at *
  have MX := HM.out
  go_enter Tryd.func28, Tryd.ntmps28
  go_wp2_with fail
  generalize World.alloc w _ = W0 at *
  have q0 : Below M w W0.drew := B0.out.drew
  have s0 : M + 1 ≤ W0.drew.heap.size := by show M + 1 ≤ W0.heap.size; have := S0.out; omega
  have z0 : W0.drew.heap[M]? = some (.cells #[.int .i64 3, .string ⟨#[]⟩, .slice none 0 0, .int .i64 0, .int .i64 0, .string ⟨#[]⟩, .int .i64 0, .int .i64 0, .string ⟨#[]⟩, .int .i64 0, .string nm, .int .i64 k1, .string k2, .int .i64 k3, .int .i64 k4, .slice k5 k6 k7] 59 (0, 0)) := Z0.out
  have sM : M < W0.heap.size := s0
  have la : SO M (W0.alloc (.cells #[.string nm] 9)).drew (.slice (some ⟨W0.heap.size, 0, none⟩) 1 1) [nm] := so_one M W0 nm rfl (by omega)
  have qa : Below M w (W0.alloc (.cells #[.string nm] 9)).drew := (B0.out.alloc (by omega) _).drew
  have ea : (W0.alloc (.cells #[.string nm] 9)).drew.heap.size = W0.heap.size + 1 := by show (W0.alloc (.cells #[.string nm] 9)).heap.size = _; simp
  have sa : M + 1 ≤ (W0.alloc (.cells #[.string nm] 9)).drew.heap.size := by rw [ea]; omega
  have za : (W0.alloc (.cells #[.string nm] 9)).drew.heap[M]? = some (.cells #[.int .i64 3, .string ⟨#[]⟩, .slice none 0 0, .int .i64 0, .int .i64 0, .string ⟨#[]⟩, .int .i64 0, .int .i64 0, .string ⟨#[]⟩, .int .i64 0, .string nm, .int .i64 k1, .string k2, .int .i64 k3, .int .i64 k4, .slice k5 k6 k7] 59 (0, 0)) := ((((Below.refl W0.heap.size W0).alloc (Nat.le_refl _) (.cells #[.string nm] 9)).block M sM).trans Z0.out)
  go_region_held3 (fun w' => Below M w w' ∧ M + 1 ≤ w'.heap.size ∧ w'.heap[M]? = some (.cells #[.int .i64 3, .string ⟨#[]⟩, .slice none 0 0, .int .i64 0, .int .i64 0, .string ⟨#[]⟩, .int .i64 0, .int .i64 0, .string ⟨#[]⟩, .int .i64 0, .string nm, .int .i64 k1, .string k2, .int .i64 k3, .int .i64 k4, .slice k5 k6 k7] 59 (0, 0)) ∧ w'.cell? ⟨M, 10, none⟩ = some (.string nm) ∧ w'.cell? ⟨M, 11, none⟩ = some (.int .i64 k1) ∧ w'.cell? ⟨M, 12, none⟩ = some (.string k2) ∧ w'.cell? ⟨M, 13, none⟩ = some (.int .i64 k3) ∧ w'.cell? ⟨M, 14, none⟩ = some (.int .i64 k4) ∧ w'.cell? ⟨M, 15, none⟩ = some (.slice k5 k6 k7))
    (first | (with_reducible exact nlS q0 s0 z0) | (with_reducible exact nlS qa sa za) | (with_reducible exact nlG ‹Below M w _ ∧ _ ∧ _ ∧ _ ∧ _ ∧ _ ∧ _ ∧ _ ∧ _› ‹World.grownBy _ _ _› hq7) | (with_reducible exact nlC ‹Below M w _ ∧ _ ∧ _ ∧ _ ∧ _ ∧ _ ∧ _ ∧ _ ∧ _› ‹Below _ _ _›) | (with_reducible exact nlA _ ‹Below M w _ ∧ _ ∧ _ ∧ _ ∧ _ ∧ _ ∧ _ ∧ _ ∧ _›))
    (first
      | (go_at_call 30; (with_reducible refine (CI.out _ (And.left ‹Below M w _ ∧ _ ∧ _ ∧ _ ∧ _ ∧ _ ∧ _ ∧ _ ∧ _›)).mono ?_); rintro e w5 ⟨v5, rfl, ho5, hb5⟩; obtain ⟨v7, w7, hrun, hown, hgr, hat⟩ := app_ss (la.below hb5) ho5 LL.out (by have := hb5.size; omega); have hq7 : ∀ b, (Value.slice (some ⟨W0.heap.size, 0, none⟩) 1 1).ownBlock = some b → M < b := (fun b hb => (by simp only [Value.ownBlock, Option.some.injEq] at hb; omega)); have RS : Hid (SO w.heap.size w7 v7 (nm :: tx) ∧ Below w.heap.size w w7) := Lib.hid (by rw [HM.out]; exact ⟨hown, (qa.trans (hb5.mono (by omega))).grown hgr (by have := hb5.size; omega) (fun k hk => by have := hq7 k hk; omega)⟩))
      | (go_at_call 30; (with_reducible refine (CI.out _ (And.left ‹Below M w _ ∧ _ ∧ _ ∧ _ ∧ _ ∧ _ ∧ _ ∧ _ ∧ _›)).mono ?_); rintro e w5 ⟨v5, rfl, ho5, hb5⟩; obtain ⟨v7, w7, hrun, hown, hgr, hat⟩ := app_ss (so_one M w5 nm rfl (by have := hb5.size; omega)) (ho5.below ((Below.refl _ _).alloc (Nat.le_refl _) (.cells #[.string nm] 9))) LL.out (by have := hb5.size; simp; omega); have hq7 : ∀ b, (Value.slice (some ⟨w5.heap.size, 0, none⟩) 1 1).ownBlock = some b → M < b := (fun b hb => (by simp only [Value.ownBlock, Option.some.injEq] at hb; have := hb5.size; omega)); have RS : Hid (SO w.heap.size w7 v7 (nm :: tx) ∧ Below w.heap.size w w7) := Lib.hid (by rw [HM.out]; exact ⟨hown, ((q0.trans (hb5.mono (by omega))).alloc (by have := hb5.size; omega) _).grown hgr (by have := hb5.size; simp; omega) (fun k hk => by have := hb5.size; simp only [Value.ownBlock, Option.some.injEq] at hk; omega)⟩)))
  all_goals
    clear hown hgr hat ho5 hb5
    go_wp2_with fail
    go_ret
    exact ⟨v7, rfl, RS.out.1, RS.out.2⟩
theorem nam_calls {N : Nat} {p : Pt} {cs : Array Value} {w : World} (h : PtV N w p cs) (hN : N ≤ w.heap.size) (hn : ∀ nm x, p = .letx nm x → x.nodes ≤ 1000) : Calls Tryd.prog 28 #[.agg cs] w (SsRet w (pVars p)) := by
  cases p with
  | pos pred l => obtain ⟨a, c, rfl, h2, h3, h4⟩ := h; exact nam_pos pred a l c N w hN h2 h4
  | neg pred l => obtain ⟨a, c, rfl, h2, h3, h4⟩ := h; exact nam_neg pred a l c N w hN h2 h4
  | cmp op ta tb => obtain ⟨rfl, h2, h3, h4⟩ := h; exact nam_cmp op ta tb h3 h4 w
  | letx nm x => obtain ⟨k1, k2, k3, k4, k5, k6, k7, rfl, h2, h3, h4⟩ := h; exact nam_let nm h2 hN (hn _ _ rfl)
theorem pv_calls {N : Nat} {p : Pt} {cs : Array Value} {w : World} (h : PtV N w p cs) (hN : N ≤ w.heap.size) (hn : ∀ nm x, p = .letx nm x → x.nodes ≤ 1000) : Calls Tryd.prog 27 #[.agg cs] w (SsRet w (pVars p)) := by
  cases p with
  | pos pred l => obtain ⟨a, c, rfl, h2, h3, h4⟩ := h; exact pv_pos pred a l c N w hN h2 h4
  | neg pred l => obtain ⟨a, c, rfl, h2, h3, h4⟩ := h; exact pv_neg pred a l c N w hN h2 h4
  | cmp op ta tb => obtain ⟨rfl, h2, h3, h4⟩ := h; exact pv_cmp op ta tb h3 h4 w
  | letx nm x => obtain ⟨k1, k2, k3, k4, k5, k6, k7, rfl, h2, h3, h4⟩ := h; exact pv_let nm h2 hN (hn _ _ rfl)
end Go.Proofs.YtaglbeokecbihaaDoor
