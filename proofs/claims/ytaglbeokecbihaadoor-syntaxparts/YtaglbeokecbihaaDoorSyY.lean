/- SyntaxParts, walked whole. Written by mksyw.py. -/
import Derived.Test.YtaglbeokecbihaaDoorSyX
namespace Go.Proofs.YtaglbeokecbihaaDoor
open Go.RowKit
set_option linter.unusedVariables false
set_option linter.unusedSimpArgs false

set_option maxRecDepth 100000 in
set_option maxHeartbeats 2000000 in
theorem parts_c1 (K N G : Int) (an : Int) (aa : Option Addr) (TA : List TV) (ac : Nat) (f o pn : Int) (a : Option Addr) (TP : List TV) (cap : Nat) (x1 x2 x3 y1 y2 y3 e1 e2 e3 e4 : Int) (e5 : Option Addr) (e6 e7 : Nat) (ep : ET) (d1 d2 d3 d4 : Int) (d5 : Option Addr) (d6 d7 : Nat) (ee : ET) (w : World)
    (hs : STab w) (hep : EIn w.heap.size w ep ⟨e1, e2, e3, e4, e5, e6, e7⟩) (hee : EIn w.heap.size w ee ⟨d1, d2, d3, d4, d5, d6, d7⟩) (hc : 6 < TA.length) : Calls Tryd.prog 4 #[.agg #[.int .i64 K, .int .i64 N, .int .i64 G], .agg #[.int .i64 an, .slice aa TA.length ac], .agg #[.int .i64 f, .int .i64 o, .int .i64 pn, .slice a TP.length cap, .int .i64 x1, .int .i64 x2, .int .i64 x3, .int .i64 y1, .int .i64 y2, .int .i64 y3, .int .i64 e1, .int .i64 e2, .int .i64 e3, .int .i64 e4, .slice e5 e6 e7], .agg #[.int .i64 d1, .int .i64 d2, .int .i64 d3, .int .i64 d4, .slice d5 d6 d7]] w (TrueRet w) := by
  obtain ⟨M, hM⟩ : ∃ M, w.heap.size = M := ⟨_, rfl⟩
  have HM := Lib.hid hM
  have h6 : 6 ≤ M := by have := hs.sz; omega
  obtain ⟨na, hna⟩ : ∃ n, TA.length = n := ⟨_, rfl⟩
  obtain ⟨np, hnp⟩ : ∃ n, TP.length = n := ⟨_, rfl⟩
  obtain ⟨q0, q1, q2, q3, q4, q5⟩ := box4 w #[.int .i64 K, .int .i64 N, .int .i64 G] #[.int .i64 an, .slice aa na ac] #[.int .i64 f, .int .i64 o, .int .i64 pn, .slice a np cap, .int .i64 x1, .int .i64 x2, .int .i64 x3, .int .i64 y1, .int .i64 y2, .int .i64 y3, .int .i64 e1, .int .i64 e2, .int .i64 e3, .int .i64 e4, .slice e5 e6 e7] #[.int .i64 d1, .int .i64 d2, .int .i64 d3, .int .i64 d4, .slice d5 d6 d7] 32 35 40 38 M hM
  have B0 := Lib.hid q0
  have S0 := Lib.hid q1
  have Z0 := Lib.hid q2
  have Z1 := Lib.hid q3
  have Z2 := Lib.hid q4
  have Z3 := Lib.hid q5
  clear q0 q1 q2 q3 q4 q5
  have CNP : Hid (∀ v, Below M w v → Calls Tryd.prog 10 #[.agg #[.int .i64 e1, .int .i64 e2, .int .i64 e3, .int .i64 e4, .slice e5 e6 e7], .int .i64 0] v (IntRet v (cnt 0 ep))) := Lib.hid (fun v h => cnt_all ep 0 M e1 e2 e3 e4 e5 e6 e7 v (by omega) (by rw [hM] at hep; exact hep.on h) (by have := h.size; omega))
  have CNE : Hid (∀ v, Below M w v → Calls Tryd.prog 10 #[.agg #[.int .i64 d1, .int .i64 d2, .int .i64 d3, .int .i64 d4, .slice d5 d6 d7], .int .i64 0] v (IntRet v (cnt 0 ee))) := Lib.hid (fun v h => cnt_all ee 0 M d1 d2 d3 d4 d5 d6 d7 v (by omega) (by rw [hM] at hee; exact hee.on h) (by have := h.size; omega))
  have ST : Hid (∀ v, Below M w v → STab v) := Lib.hid (fun v h => hs.on h6 h)
  have c1 := cnt_le ep 0 (by omega)
  have c2 := cnt_le ee 0 (by omega)
  rw [hna] at hc ⊢
  rw [hnp] 
  clear hep hee hM hna hnp hs
  generalize cnt 0 ep = n1 at *
  generalize cnt 0 ee = n2 at *
  have t1 : decide ((6 : Int) < (na : Int)) = true := decide_eq_true (by omega)
  have MX := HM.out
  have ch := Lib.hid (head13_calls _ (ST.out _ B0.out))
  go_enter Tryd.func4, Tryd.ntmps4
  go_wp2_with fail
  refine ch.out.mono ?_
  generalize World.alloc (World.alloc (World.alloc (World.alloc w _) _) _) _ = W0 at *
  rintro e w1 ⟨rfl, hb1⟩
  have B1 : Hid (Below M w w1) := Lib.hid (B0.out.trans (hb1.mono (by rw [S0.out]; omega)))
  have s1 : M + 4 ≤ w1.heap.size := by have := hb1.size; rw [S0.out] at this; exact this
  have y1 := (hb1.block (M + 1) (by rw [S0.out]; omega)).trans Z1.out
  have y2 := (hb1.block (M + 2) (by rw [S0.out]; omega)).trans Z2.out
  have y3 := (hb1.block (M + 3) (by rw [S0.out]; omega)).trans Z3.out
  clear hb1 ch
  have a1' := cellAt (i := 1) y1 rfl
  have p3' := cellAt (i := 3) y2 rfl
  have p10 := cellAt (i := 10) y2 rfl
  have p11 := cellAt (i := 11) y2 rfl
  have p12 := cellAt (i := 12) y2 rfl
  have p13 := cellAt (i := 13) y2 rfl
  have p14 := cellAt (i := 14) y2 rfl
  go_wp2_with fail
  go_ret
  exact ⟨rfl, by rw [HM.out]; exact B1.out⟩
set_option maxRecDepth 100000 in
set_option maxHeartbeats 2000000 in
theorem parts_c2 (K N G : Int) (an : Int) (aa : Option Addr) (TA : List TV) (ac : Nat) (f o pn : Int) (a : Option Addr) (TP : List TV) (cap : Nat) (x1 x2 x3 y1 y2 y3 e1 e2 e3 e4 : Int) (e5 : Option Addr) (e6 e7 : Nat) (ep : ET) (d1 d2 d3 d4 : Int) (d5 : Option Addr) (d6 d7 : Nat) (ee : ET) (w : World)
    (hs : STab w) (hep : EIn w.heap.size w ep ⟨e1, e2, e3, e4, e5, e6, e7⟩) (hee : EIn w.heap.size w ee ⟨d1, d2, d3, d4, d5, d6, d7⟩) (hc0 : TA.length ≤ 6) (hc : 6 < TP.length) : Calls Tryd.prog 4 #[.agg #[.int .i64 K, .int .i64 N, .int .i64 G], .agg #[.int .i64 an, .slice aa TA.length ac], .agg #[.int .i64 f, .int .i64 o, .int .i64 pn, .slice a TP.length cap, .int .i64 x1, .int .i64 x2, .int .i64 x3, .int .i64 y1, .int .i64 y2, .int .i64 y3, .int .i64 e1, .int .i64 e2, .int .i64 e3, .int .i64 e4, .slice e5 e6 e7], .agg #[.int .i64 d1, .int .i64 d2, .int .i64 d3, .int .i64 d4, .slice d5 d6 d7]] w (TrueRet w) := by
  obtain ⟨M, hM⟩ : ∃ M, w.heap.size = M := ⟨_, rfl⟩
  have HM := Lib.hid hM
  have h6 : 6 ≤ M := by have := hs.sz; omega
  obtain ⟨na, hna⟩ : ∃ n, TA.length = n := ⟨_, rfl⟩
  obtain ⟨np, hnp⟩ : ∃ n, TP.length = n := ⟨_, rfl⟩
  obtain ⟨q0, q1, q2, q3, q4, q5⟩ := box4 w #[.int .i64 K, .int .i64 N, .int .i64 G] #[.int .i64 an, .slice aa na ac] #[.int .i64 f, .int .i64 o, .int .i64 pn, .slice a np cap, .int .i64 x1, .int .i64 x2, .int .i64 x3, .int .i64 y1, .int .i64 y2, .int .i64 y3, .int .i64 e1, .int .i64 e2, .int .i64 e3, .int .i64 e4, .slice e5 e6 e7] #[.int .i64 d1, .int .i64 d2, .int .i64 d3, .int .i64 d4, .slice d5 d6 d7] 32 35 40 38 M hM
  have B0 := Lib.hid q0
  have S0 := Lib.hid q1
  have Z0 := Lib.hid q2
  have Z1 := Lib.hid q3
  have Z2 := Lib.hid q4
  have Z3 := Lib.hid q5
  clear q0 q1 q2 q3 q4 q5
  have CNP : Hid (∀ v, Below M w v → Calls Tryd.prog 10 #[.agg #[.int .i64 e1, .int .i64 e2, .int .i64 e3, .int .i64 e4, .slice e5 e6 e7], .int .i64 0] v (IntRet v (cnt 0 ep))) := Lib.hid (fun v h => cnt_all ep 0 M e1 e2 e3 e4 e5 e6 e7 v (by omega) (by rw [hM] at hep; exact hep.on h) (by have := h.size; omega))
  have CNE : Hid (∀ v, Below M w v → Calls Tryd.prog 10 #[.agg #[.int .i64 d1, .int .i64 d2, .int .i64 d3, .int .i64 d4, .slice d5 d6 d7], .int .i64 0] v (IntRet v (cnt 0 ee))) := Lib.hid (fun v h => cnt_all ee 0 M d1 d2 d3 d4 d5 d6 d7 v (by omega) (by rw [hM] at hee; exact hee.on h) (by have := h.size; omega))
  have ST : Hid (∀ v, Below M w v → STab v) := Lib.hid (fun v h => hs.on h6 h)
  have c1 := cnt_le ep 0 (by omega)
  have c2 := cnt_le ee 0 (by omega)
  rw [hna] at hc0 ⊢
  rw [hnp] at hc ⊢
  clear hep hee hM hna hnp hs
  generalize cnt 0 ep = n1 at *
  generalize cnt 0 ee = n2 at *
  have t1 : decide ((6 : Int) < (na : Int)) = false := decide_eq_false (by omega)
  have t2 : decide ((6 : Int) < (np : Int)) = true := decide_eq_true (by omega)
  have MX := HM.out
  have ch := Lib.hid (head13_calls _ (ST.out _ B0.out))
  go_enter Tryd.func4, Tryd.ntmps4
  go_wp2_with fail
  refine ch.out.mono ?_
  generalize World.alloc (World.alloc (World.alloc (World.alloc w _) _) _) _ = W0 at *
  rintro e w1 ⟨rfl, hb1⟩
  have B1 : Hid (Below M w w1) := Lib.hid (B0.out.trans (hb1.mono (by rw [S0.out]; omega)))
  have s1 : M + 4 ≤ w1.heap.size := by have := hb1.size; rw [S0.out] at this; exact this
  have y1 := (hb1.block (M + 1) (by rw [S0.out]; omega)).trans Z1.out
  have y2 := (hb1.block (M + 2) (by rw [S0.out]; omega)).trans Z2.out
  have y3 := (hb1.block (M + 3) (by rw [S0.out]; omega)).trans Z3.out
  clear hb1 ch
  have a1' := cellAt (i := 1) y1 rfl
  have p3' := cellAt (i := 3) y2 rfl
  have p10 := cellAt (i := 10) y2 rfl
  have p11 := cellAt (i := 11) y2 rfl
  have p12 := cellAt (i := 12) y2 rfl
  have p13 := cellAt (i := 13) y2 rfl
  have p14 := cellAt (i := 14) y2 rfl
  go_wp2_with fail
  go_ret
  exact ⟨rfl, by rw [HM.out]; exact B1.out⟩
set_option maxRecDepth 100000 in
set_option maxHeartbeats 2000000 in
theorem parts_c3 (K N G : Int) (an : Int) (aa : Option Addr) (TA : List TV) (ac : Nat) (f o pn : Int) (a : Option Addr) (TP : List TV) (cap : Nat) (x1 x2 x3 y1 y2 y3 e1 e2 e3 e4 : Int) (e5 : Option Addr) (e6 e7 : Nat) (ep : ET) (d1 d2 d3 d4 : Int) (d5 : Option Addr) (d6 d7 : Nat) (ee : ET) (w : World)
    (hs : STab w) (hep : EIn w.heap.size w ep ⟨e1, e2, e3, e4, e5, e6, e7⟩) (hee : EIn w.heap.size w ee ⟨d1, d2, d3, d4, d5, d6, d7⟩) (hc0 : TA.length ≤ 6) (hc1 : TP.length ≤ 6) (hc : 40 < cnt 0 ep) : Calls Tryd.prog 4 #[.agg #[.int .i64 K, .int .i64 N, .int .i64 G], .agg #[.int .i64 an, .slice aa TA.length ac], .agg #[.int .i64 f, .int .i64 o, .int .i64 pn, .slice a TP.length cap, .int .i64 x1, .int .i64 x2, .int .i64 x3, .int .i64 y1, .int .i64 y2, .int .i64 y3, .int .i64 e1, .int .i64 e2, .int .i64 e3, .int .i64 e4, .slice e5 e6 e7], .agg #[.int .i64 d1, .int .i64 d2, .int .i64 d3, .int .i64 d4, .slice d5 d6 d7]] w (TrueRet w) := by
  obtain ⟨M, hM⟩ : ∃ M, w.heap.size = M := ⟨_, rfl⟩
  have HM := Lib.hid hM
  have h6 : 6 ≤ M := by have := hs.sz; omega
  obtain ⟨na, hna⟩ : ∃ n, TA.length = n := ⟨_, rfl⟩
  obtain ⟨np, hnp⟩ : ∃ n, TP.length = n := ⟨_, rfl⟩
  obtain ⟨q0, q1, q2, q3, q4, q5⟩ := box4 w #[.int .i64 K, .int .i64 N, .int .i64 G] #[.int .i64 an, .slice aa na ac] #[.int .i64 f, .int .i64 o, .int .i64 pn, .slice a np cap, .int .i64 x1, .int .i64 x2, .int .i64 x3, .int .i64 y1, .int .i64 y2, .int .i64 y3, .int .i64 e1, .int .i64 e2, .int .i64 e3, .int .i64 e4, .slice e5 e6 e7] #[.int .i64 d1, .int .i64 d2, .int .i64 d3, .int .i64 d4, .slice d5 d6 d7] 32 35 40 38 M hM
  have B0 := Lib.hid q0
  have S0 := Lib.hid q1
  have Z0 := Lib.hid q2
  have Z1 := Lib.hid q3
  have Z2 := Lib.hid q4
  have Z3 := Lib.hid q5
  clear q0 q1 q2 q3 q4 q5
  have CNP : Hid (∀ v, Below M w v → Calls Tryd.prog 10 #[.agg #[.int .i64 e1, .int .i64 e2, .int .i64 e3, .int .i64 e4, .slice e5 e6 e7], .int .i64 0] v (IntRet v (cnt 0 ep))) := Lib.hid (fun v h => cnt_all ep 0 M e1 e2 e3 e4 e5 e6 e7 v (by omega) (by rw [hM] at hep; exact hep.on h) (by have := h.size; omega))
  have CNE : Hid (∀ v, Below M w v → Calls Tryd.prog 10 #[.agg #[.int .i64 d1, .int .i64 d2, .int .i64 d3, .int .i64 d4, .slice d5 d6 d7], .int .i64 0] v (IntRet v (cnt 0 ee))) := Lib.hid (fun v h => cnt_all ee 0 M d1 d2 d3 d4 d5 d6 d7 v (by omega) (by rw [hM] at hee; exact hee.on h) (by have := h.size; omega))
  have ST : Hid (∀ v, Below M w v → STab v) := Lib.hid (fun v h => hs.on h6 h)
  have c1 := cnt_le ep 0 (by omega)
  have c2 := cnt_le ee 0 (by omega)
  rw [hna] at hc0 ⊢
  rw [hnp] at hc1 ⊢
  clear hep hee hM hna hnp hs
  generalize cnt 0 ep = n1 at *
  generalize cnt 0 ee = n2 at *
  have t1 : decide ((6 : Int) < (na : Int)) = false := decide_eq_false (by omega)
  have t2 : decide ((6 : Int) < (np : Int)) = false := decide_eq_false (by omega)
  have t3 : decide ((40 : Int) < (n1 : Int)) = true := decide_eq_true (by omega)
  have MX := HM.out
  have ch := Lib.hid (head13_calls _ (ST.out _ B0.out))
  go_enter Tryd.func4, Tryd.ntmps4
  go_wp2_with fail
  refine ch.out.mono ?_
  generalize World.alloc (World.alloc (World.alloc (World.alloc w _) _) _) _ = W0 at *
  rintro e w1 ⟨rfl, hb1⟩
  have B1 : Hid (Below M w w1) := Lib.hid (B0.out.trans (hb1.mono (by rw [S0.out]; omega)))
  have s1 : M + 4 ≤ w1.heap.size := by have := hb1.size; rw [S0.out] at this; exact this
  have y1 := (hb1.block (M + 1) (by rw [S0.out]; omega)).trans Z1.out
  have y2 := (hb1.block (M + 2) (by rw [S0.out]; omega)).trans Z2.out
  have y3 := (hb1.block (M + 3) (by rw [S0.out]; omega)).trans Z3.out
  clear hb1 ch
  have a1' := cellAt (i := 1) y1 rfl
  have p3' := cellAt (i := 3) y2 rfl
  have p10 := cellAt (i := 10) y2 rfl
  have p11 := cellAt (i := 11) y2 rfl
  have p12 := cellAt (i := 12) y2 rfl
  have p13 := cellAt (i := 13) y2 rfl
  have p14 := cellAt (i := 14) y2 rfl
  go_wp2_with fail
  refine (CNP.out w1 B1.out).mono ?_
  rintro e w2 ⟨rfl, hb2⟩
  have B2 : Hid (Below M w w2) := Lib.hid (B1.out.trans (hb2.mono (by omega)))
  have s2 : M + 4 ≤ w2.heap.size := Nat.le_trans s1 hb2.size
  have z3 := (hb2.block (M + 3) (by omega)).trans y3
  clear hb2 y1 y2 y3 a1' p3' p10 p11 p12 p13 p14
  go_wp2_with fail
  go_ret
  exact ⟨rfl, by rw [HM.out]; exact B2.out⟩
set_option maxRecDepth 100000 in
set_option maxHeartbeats 2000000 in
theorem parts_c4 (K N G : Int) (an : Int) (aa : Option Addr) (TA : List TV) (ac : Nat) (f o pn : Int) (a : Option Addr) (TP : List TV) (cap : Nat) (x1 x2 x3 y1 y2 y3 e1 e2 e3 e4 : Int) (e5 : Option Addr) (e6 e7 : Nat) (ep : ET) (d1 d2 d3 d4 : Int) (d5 : Option Addr) (d6 d7 : Nat) (ee : ET) (w : World)
    (hs : STab w) (hep : EIn w.heap.size w ep ⟨e1, e2, e3, e4, e5, e6, e7⟩) (hee : EIn w.heap.size w ee ⟨d1, d2, d3, d4, d5, d6, d7⟩) (hc0 : TA.length ≤ 6) (hc1 : TP.length ≤ 6) (hc2 : cnt 0 ep ≤ 40) (hc : 40 < cnt 0 ee) : Calls Tryd.prog 4 #[.agg #[.int .i64 K, .int .i64 N, .int .i64 G], .agg #[.int .i64 an, .slice aa TA.length ac], .agg #[.int .i64 f, .int .i64 o, .int .i64 pn, .slice a TP.length cap, .int .i64 x1, .int .i64 x2, .int .i64 x3, .int .i64 y1, .int .i64 y2, .int .i64 y3, .int .i64 e1, .int .i64 e2, .int .i64 e3, .int .i64 e4, .slice e5 e6 e7], .agg #[.int .i64 d1, .int .i64 d2, .int .i64 d3, .int .i64 d4, .slice d5 d6 d7]] w (TrueRet w) := by
  obtain ⟨M, hM⟩ : ∃ M, w.heap.size = M := ⟨_, rfl⟩
  have HM := Lib.hid hM
  have h6 : 6 ≤ M := by have := hs.sz; omega
  obtain ⟨na, hna⟩ : ∃ n, TA.length = n := ⟨_, rfl⟩
  obtain ⟨np, hnp⟩ : ∃ n, TP.length = n := ⟨_, rfl⟩
  obtain ⟨q0, q1, q2, q3, q4, q5⟩ := box4 w #[.int .i64 K, .int .i64 N, .int .i64 G] #[.int .i64 an, .slice aa na ac] #[.int .i64 f, .int .i64 o, .int .i64 pn, .slice a np cap, .int .i64 x1, .int .i64 x2, .int .i64 x3, .int .i64 y1, .int .i64 y2, .int .i64 y3, .int .i64 e1, .int .i64 e2, .int .i64 e3, .int .i64 e4, .slice e5 e6 e7] #[.int .i64 d1, .int .i64 d2, .int .i64 d3, .int .i64 d4, .slice d5 d6 d7] 32 35 40 38 M hM
  have B0 := Lib.hid q0
  have S0 := Lib.hid q1
  have Z0 := Lib.hid q2
  have Z1 := Lib.hid q3
  have Z2 := Lib.hid q4
  have Z3 := Lib.hid q5
  clear q0 q1 q2 q3 q4 q5
  have CNP : Hid (∀ v, Below M w v → Calls Tryd.prog 10 #[.agg #[.int .i64 e1, .int .i64 e2, .int .i64 e3, .int .i64 e4, .slice e5 e6 e7], .int .i64 0] v (IntRet v (cnt 0 ep))) := Lib.hid (fun v h => cnt_all ep 0 M e1 e2 e3 e4 e5 e6 e7 v (by omega) (by rw [hM] at hep; exact hep.on h) (by have := h.size; omega))
  have CNE : Hid (∀ v, Below M w v → Calls Tryd.prog 10 #[.agg #[.int .i64 d1, .int .i64 d2, .int .i64 d3, .int .i64 d4, .slice d5 d6 d7], .int .i64 0] v (IntRet v (cnt 0 ee))) := Lib.hid (fun v h => cnt_all ee 0 M d1 d2 d3 d4 d5 d6 d7 v (by omega) (by rw [hM] at hee; exact hee.on h) (by have := h.size; omega))
  have ST : Hid (∀ v, Below M w v → STab v) := Lib.hid (fun v h => hs.on h6 h)
  have c1 := cnt_le ep 0 (by omega)
  have c2 := cnt_le ee 0 (by omega)
  rw [hna] at hc0 ⊢
  rw [hnp] at hc1 ⊢
  clear hep hee hM hna hnp hs
  generalize cnt 0 ep = n1 at *
  generalize cnt 0 ee = n2 at *
  have t1 : decide ((6 : Int) < (na : Int)) = false := decide_eq_false (by omega)
  have t2 : decide ((6 : Int) < (np : Int)) = false := decide_eq_false (by omega)
  have t3 : decide ((40 : Int) < (n1 : Int)) = false := decide_eq_false (by omega)
  have t4 : decide ((40 : Int) < (n2 : Int)) = true := decide_eq_true (by omega)
  have MX := HM.out
  have ch := Lib.hid (head13_calls _ (ST.out _ B0.out))
  go_enter Tryd.func4, Tryd.ntmps4
  go_wp2_with fail
  refine ch.out.mono ?_
  generalize World.alloc (World.alloc (World.alloc (World.alloc w _) _) _) _ = W0 at *
  rintro e w1 ⟨rfl, hb1⟩
  have B1 : Hid (Below M w w1) := Lib.hid (B0.out.trans (hb1.mono (by rw [S0.out]; omega)))
  have s1 : M + 4 ≤ w1.heap.size := by have := hb1.size; rw [S0.out] at this; exact this
  have y1 := (hb1.block (M + 1) (by rw [S0.out]; omega)).trans Z1.out
  have y2 := (hb1.block (M + 2) (by rw [S0.out]; omega)).trans Z2.out
  have y3 := (hb1.block (M + 3) (by rw [S0.out]; omega)).trans Z3.out
  clear hb1 ch
  have a1' := cellAt (i := 1) y1 rfl
  have p3' := cellAt (i := 3) y2 rfl
  have p10 := cellAt (i := 10) y2 rfl
  have p11 := cellAt (i := 11) y2 rfl
  have p12 := cellAt (i := 12) y2 rfl
  have p13 := cellAt (i := 13) y2 rfl
  have p14 := cellAt (i := 14) y2 rfl
  go_wp2_with fail
  refine (CNP.out w1 B1.out).mono ?_
  rintro e w2 ⟨rfl, hb2⟩
  have B2 : Hid (Below M w w2) := Lib.hid (B1.out.trans (hb2.mono (by omega)))
  have s2 : M + 4 ≤ w2.heap.size := Nat.le_trans s1 hb2.size
  have z3 := (hb2.block (M + 3) (by omega)).trans y3
  clear hb2 y1 y2 y3 a1' p3' p10 p11 p12 p13 p14
  have r0 := cellAt (i := 0) z3 rfl
  have r1 := cellAt (i := 1) z3 rfl
  have r2 := cellAt (i := 2) z3 rfl
  have r3 := cellAt (i := 3) z3 rfl
  have r4 := cellAt (i := 4) z3 rfl
  go_wp2_with fail
  refine (CNE.out w2 B2.out).mono ?_
  rintro e w3 ⟨rfl, hb3⟩
  have B3 : Hid (Below M w w3) := Lib.hid (B2.out.trans (hb3.mono (by omega)))
  clear hb3 z3 r0 r1 r2 r3 r4
  go_wp2_with fail
  go_ret
  exact ⟨rfl, by rw [HM.out]; exact B3.out⟩
theorem parts_walk (K N G : Int) (an : Int) (aa : Option Addr) (TA : List TV) (ac : Nat) (f o pn : Int) (a : Option Addr) (TP : List TV) (cap : Nat) (x1 x2 x3 y1 y2 y3 e1 e2 e3 e4 : Int) (e5 : Option Addr) (e6 e7 : Nat) (ep : ET) (d1 d2 d3 d4 : Int) (d5 : Option Addr) (d6 d7 : Nat) (ee : ET) (w : World)
    (hs : STab w) (hG : Gok G) (hTA : TIn w.heap.size w aa TA) (hTP : TIn w.heap.size w a TP) (hx : Gok x3) (hy : Gok y3) (hep : EIn w.heap.size w ep ⟨e1, e2, e3, e4, e5, e6, e7⟩) (hee : EIn w.heap.size w ee ⟨d1, d2, d3, d4, d5, d6, d7⟩) : Calls Tryd.prog 4 #[.agg #[.int .i64 K, .int .i64 N, .int .i64 G], .agg #[.int .i64 an, .slice aa TA.length ac], .agg #[.int .i64 f, .int .i64 o, .int .i64 pn, .slice a TP.length cap, .int .i64 x1, .int .i64 x2, .int .i64 x3, .int .i64 y1, .int .i64 y2, .int .i64 y3, .int .i64 e1, .int .i64 e2, .int .i64 e3, .int .i64 e4, .slice e5 e6 e7], .agg #[.int .i64 d1, .int .i64 d2, .int .i64 d3, .int .i64 d4, .slice d5 d6 d7]] w (TrueRet w) := by
  by_cases h1 : 6 < TA.length
  · exact parts_c1 K N G an aa TA ac f o pn a TP cap x1 x2 x3 y1 y2 y3 e1 e2 e3 e4 e5 e6 e7 ep d1 d2 d3 d4 d5 d6 d7 ee w hs hep hee h1
  by_cases h2 : 6 < TP.length
  · exact parts_c2 K N G an aa TA ac f o pn a TP cap x1 x2 x3 y1 y2 y3 e1 e2 e3 e4 e5 e6 e7 ep d1 d2 d3 d4 d5 d6 d7 ee w hs hep hee (by omega) h2
  by_cases h3 : 40 < cnt 0 ep
  · exact parts_c3 K N G an aa TA ac f o pn a TP cap x1 x2 x3 y1 y2 y3 e1 e2 e3 e4 e5 e6 e7 ep d1 d2 d3 d4 d5 d6 d7 ee w hs hep hee (by omega) (by omega) h3
  by_cases h4 : 40 < cnt 0 ee
  · exact parts_c4 K N G an aa TA ac f o pn a TP cap x1 x2 x3 y1 y2 y3 e1 e2 e3 e4 e5 e6 e7 ep d1 d2 d3 d4 d5 d6 d7 ee w hs hep hee (by omega) (by omega) (by omega) h4
  exact parts_main K N G an aa TA ac f o pn a TP cap x1 x2 x3 y1 y2 y3 e1 e2 e3 e4 e5 e6 e7 ep d1 d2 d3 d4 d5 d6 d7 ee w hs hG hTA (by omega) hTP (by omega) hx hy hep (by omega) hee (by omega)
end Go.Proofs.YtaglbeokecbihaaDoor
