/- SyntaxParts, walked: the comparison itself. Written by mksyw.py. -/
import Derived.Test.YtaglbeokecbihaaDoorSyW
namespace Go.Proofs.YtaglbeokecbihaaDoor
open Go.RowKit
set_option linter.unusedVariables false
set_option linter.unusedSimpArgs false

theorem exprM_len : ∀ (e : ET) (B : Nat) (v : EV) (W : World), EIn B W e v → (exprB (xM e)).length ≤ 50 * (xM e).nodes
  | .none K N G O, B, v, W, h => by have := termT_size (tmM_ok (uN K % 3 : Nat) N G h.2.1 h.2.2); simp only [xM, exprB, X.nodes, bs_len]; omega
  | .one K N G O k, B, v, W, h => by have := termT_size (tmM_ok (uN K % 3 : Nat) N G h.2.1.1 h.2.1.2); simp only [xM, exprB, X.nodes, bs_len]; omega
  | .two K N G O a b, B, v, W, ⟨_, _, _, _, va, vb, _, _, _, _, ha, hb⟩ => by
    have h1 := exprM_len a B va W ha
    have h2 := exprM_len b B vb W hb
    have h3 := par_len (wrapB (uN O % 5) 0 (xM a)) (exprB (xM a))
    have h4 := par_len (wrapB (uN O % 5) 1 (xM b)) (exprB (xM b))
    have h5 := ariS_size (uN O % 5) (Nat.mod_lt _ (by omega))
    simp only [xM, exprB, X.nodes, List.length_append, List.length_cons, List.length_nil, bs_len]; omega
theorem box4 (w : World) (o0 o1 o2 o3 : Array Value) (t0 t1 t2 t3 : TypeId) (M : Nat) (hM : w.heap.size = M) : Below M w ((((w.alloc (.cells o0 t0)).alloc (.cells o1 t1)).alloc (.cells o2 t2)).alloc (.cells o3 t3)) ∧ ((((w.alloc (.cells o0 t0)).alloc (.cells o1 t1)).alloc (.cells o2 t2)).alloc (.cells o3 t3)).heap.size = M + 4 ∧ ((((w.alloc (.cells o0 t0)).alloc (.cells o1 t1)).alloc (.cells o2 t2)).alloc (.cells o3 t3)).heap[M]? = some (.cells o0 t0 (0, 0)) ∧ ((((w.alloc (.cells o0 t0)).alloc (.cells o1 t1)).alloc (.cells o2 t2)).alloc (.cells o3 t3)).heap[M + 1]? = some (.cells o1 t1 (0, 0)) ∧ ((((w.alloc (.cells o0 t0)).alloc (.cells o1 t1)).alloc (.cells o2 t2)).alloc (.cells o3 t3)).heap[M + 2]? = some (.cells o2 t2 (0, 0)) ∧ ((((w.alloc (.cells o0 t0)).alloc (.cells o1 t1)).alloc (.cells o2 t2)).alloc (.cells o3 t3)).heap[M + 3]? = some (.cells o3 t3 (0, 0)) := by
  have n0 : (w.alloc (.cells o0 t0)).heap[M]? = some (.cells o0 t0 (0, 0)) := by rw [← hM]; exact heap_alloc_new _ _
  obtain ⟨A1, hA1⟩ : ∃ A, w.alloc (.cells o0 t0) = A := ⟨_, rfl⟩
  have b0 : Below w.heap.size w A1 := by rw [← hA1]; exact (Below.refl _ _).alloc (Nat.le_refl _) _
  have s1 : A1.heap.size = M + 1 := by rw [← hA1]; simp [hM]
  rw [hA1] at n0 ⊢
  have n1 : (A1.alloc (.cells o1 t1)).heap[M + 1]? = some (.cells o1 t1 (0, 0)) := by rw [← s1]; exact heap_alloc_new _ _
  obtain ⟨A2, hA2⟩ : ∃ A, A1.alloc (.cells o1 t1) = A := ⟨_, rfl⟩
  have b1 : Below A1.heap.size A1 A2 := by rw [← hA2]; exact (Below.refl _ _).alloc (Nat.le_refl _) _
  have s2 : A2.heap.size = M + 2 := by rw [← hA2]; simp [s1]
  rw [hA2] at n1 ⊢
  have n2 : (A2.alloc (.cells o2 t2)).heap[M + 2]? = some (.cells o2 t2 (0, 0)) := by rw [← s2]; exact heap_alloc_new _ _
  obtain ⟨A3, hA3⟩ : ∃ A, A2.alloc (.cells o2 t2) = A := ⟨_, rfl⟩
  have b2 : Below A2.heap.size A2 A3 := by rw [← hA3]; exact (Below.refl _ _).alloc (Nat.le_refl _) _
  have s3 : A3.heap.size = M + 3 := by rw [← hA3]; simp [s2]
  rw [hA3] at n2 ⊢
  have n3 : (A3.alloc (.cells o3 t3)).heap[M + 3]? = some (.cells o3 t3 (0, 0)) := by rw [← s3]; exact heap_alloc_new _ _
  obtain ⟨A4, hA4⟩ : ∃ A, A3.alloc (.cells o3 t3) = A := ⟨_, rfl⟩
  have b3 : Below A3.heap.size A3 A4 := by rw [← hA4]; exact (Below.refl _ _).alloc (Nat.le_refl _) _
  have s4 : A4.heap.size = M + 4 := by rw [← hA4]; simp [s3]
  rw [hA4] at n3 ⊢
  exact ⟨(((Below.refl M w).trans (b0.mono (by omega))).trans (b1.mono (by omega))).trans ((b2.mono (by omega)).trans (b3.mono (by omega))), s4, (b3.block M (by omega)).trans ((b2.block M (by omega)).trans ((b1.block M (by omega)).trans n0)), (b3.block (M + 1) (by omega)).trans ((b2.block (M + 1) (by omega)).trans n1), (b3.block (M + 2) (by omega)).trans n2, n3⟩
set_option maxRecDepth 100000 in
set_option maxHeartbeats 8000000 in
theorem parts_main (K N G : Int) (an : Int) (aa : Option Addr) (TA : List TV) (ac : Nat) (f o pn : Int) (a : Option Addr) (TP : List TV) (cap : Nat) (x1 x2 x3 y1 y2 y3 e1 e2 e3 e4 : Int) (e5 : Option Addr) (e6 e7 : Nat) (ep : ET) (d1 d2 d3 d4 : Int) (d5 : Option Addr) (d6 d7 : Nat) (ee : ET) (w : World)
    (hs : STab w) (hG : Gok G) (hTA : TIn w.heap.size w aa TA) (hna6 : TA.length ≤ 6) (hTP : TIn w.heap.size w a TP) (hnp6 : TP.length ≤ 6) (hx : Gok x3) (hy : Gok y3) (hep : EIn w.heap.size w ep ⟨e1, e2, e3, e4, e5, e6, e7⟩) (hne : cnt 0 ep ≤ 40) (hee : EIn w.heap.size w ee ⟨d1, d2, d3, d4, d5, d6, d7⟩) (hnn : cnt 0 ee ≤ 40) : Calls Tryd.prog 4 #[.agg #[.int .i64 K, .int .i64 N, .int .i64 G], .agg #[.int .i64 an, .slice aa TA.length ac], .agg #[.int .i64 f, .int .i64 o, .int .i64 pn, .slice a TP.length cap, .int .i64 x1, .int .i64 x2, .int .i64 x3, .int .i64 y1, .int .i64 y2, .int .i64 y3, .int .i64 e1, .int .i64 e2, .int .i64 e3, .int .i64 e4, .slice e5 e6 e7], .agg #[.int .i64 d1, .int .i64 d2, .int .i64 d3, .int .i64 d4, .slice d5 d6 d7]] w (TrueRet w) := by
  obtain ⟨M, hM⟩ : ∃ M, w.heap.size = M := ⟨_, rfl⟩
  have HM := Lib.hid hM
  have h6 : 6 ≤ M := by have := hs.sz; omega
  obtain ⟨na, hna⟩ : ∃ n, TA.length = n := ⟨_, rfl⟩
  obtain ⟨np, hnp⟩ : ∃ n, TP.length = n := ⟨_, rfl⟩
  have hnodeP : (xM ep).nodes ≤ 40 := Nat.le_trans (cnt_nodes ep 0 hne) hne
  have hnodeE : (xM ee).nodes ≤ 40 := Nat.le_trans (cnt_nodes ee 0 hnn) hnn
  obtain ⟨q0, q1, q2, q3, q4, q5⟩ := box4 w #[.int .i64 K, .int .i64 N, .int .i64 G] #[.int .i64 an, .slice aa na ac] #[.int .i64 f, .int .i64 o, .int .i64 pn, .slice a np cap, .int .i64 x1, .int .i64 x2, .int .i64 x3, .int .i64 y1, .int .i64 y2, .int .i64 y3, .int .i64 e1, .int .i64 e2, .int .i64 e3, .int .i64 e4, .slice e5 e6 e7] #[.int .i64 d1, .int .i64 d2, .int .i64 d3, .int .i64 d4, .slice d5 d6 d7] 32 35 40 38 M hM
  have B0 := Lib.hid q0
  have S0 := Lib.hid q1
  have Z0 := Lib.hid q2
  have Z1 := Lib.hid q3
  have Z2 := Lib.hid q4
  have Z3 := Lib.hid q5
  clear q0 q1 q2 q3 q4 q5
  have CT : Hid (∀ v, Calls Tryd.prog 11 #[.agg #[.int .i64 K, .int .i64 N, .int .i64 G]] v (TmRet v (tmM K N G))) := Lib.hid (fun v => term_calls _ _ _ v)
  have hok := tmM_ok K N G hG.1 hG.2
  have C12 : Hid (∀ v, STab v → Calls Tryd.prog 12 #[.agg #[.int .i64 (tmM K N G).kind, .string (tmM K N G).text, .int .i64 (tmM K N G).n]] v (StrRet v (termT (tmM K N G)))) := Lib.hid (fun v h => termString_calls _ hok v h)
  have C13 : Hid (∀ v, STab v → Calls Tryd.prog 13 #[.agg #[.int .i64 (tmM K N G).kind, .string (tmM K N G).text, .int .i64 (tmM K N G).n]] v (StrRet v (termT (tmM K N G)))) := Lib.hid (fun v h => text_calls _ hok v h)
  have CA : Hid (∀ v, Below M w v → Calls Tryd.prog 14 #[.agg #[.int .i64 an, .slice aa na ac]] v (AtomRet v (predS (uN an % 6)) (atomL TA))) := Lib.hid (fun v h => by
    rw [← hna]
    refine (atomOf_calls an aa TA ac M v (by have := h.size; omega) ((by rw [hM] at hTA; exact hTA.on h : TIn M v aa TA)) (by omega)).mono fun e' w' h9 => ?_
    obtain ⟨av, cv, g1, g2, g3⟩ := h9
    exact ⟨av, cv, g1, g2.into, g3⟩)
  have hal := atomL_len (T := TA) (by omega)
  have hpr := predS_100 (uN an)
  have CP : Hid (∀ v, Below M w v → Calls Tryd.prog 17 #[.agg #[.int .i64 f, .int .i64 o, .int .i64 pn, .slice a np cap, .int .i64 x1, .int .i64 x2, .int .i64 x3, .int .i64 y1, .int .i64 y2, .int .i64 y3, .int .i64 e1, .int .i64 e2, .int .i64 e3, .int .i64 e4, .slice e5 e6 e7]] v (PartRet v (ptM f o pn TP x1 x2 x3 y1 y2 y3 ep))) := Lib.hid (fun v h => by
    rw [← hnp]
    exact partOf_calls f o pn a TP cap x1 x2 x3 y1 y2 y3 e1 e2 e3 e4 e5 e6 e7 v (B := M) (by have := h.size; omega) (by rw [hM] at hTP; exact hTP.on h) (by omega) (by rw [hM] at hep; exact hep.on h) hx hy hnodeP)
  have CE : Hid (∀ v, Below M w v → Calls Tryd.prog 20 #[.agg #[.int .i64 d1, .int .i64 d2, .int .i64 d3, .int .i64 d4, .slice d5 d6 d7]] v (ExprRet v (xM ee))) := Lib.hid (fun v h =>
    (of_all ee M d1 d2 d3 d4 d5 d6 d7 v (by rw [hM] at hee; exact hee.on h) (by have := h.size; omega)).mono fun e' w' h9 => by
      obtain ⟨k1, k2, k3, k4, k5, k6, k7, g1, g2, g3⟩ := h9
      exact ⟨k1, k2, k3, k4, k5, k6, k7, g1, g2.into, g3⟩)
  have CNP : Hid (∀ v, Below M w v → Calls Tryd.prog 10 #[.agg #[.int .i64 e1, .int .i64 e2, .int .i64 e3, .int .i64 e4, .slice e5 e6 e7], .int .i64 0] v (IntRet v (cnt 0 ep))) := Lib.hid (fun v h => cnt_all ep 0 M e1 e2 e3 e4 e5 e6 e7 v (by omega) (by rw [hM] at hep; exact hep.on h) (by have := h.size; omega))
  have CNE : Hid (∀ v, Below M w v → Calls Tryd.prog 10 #[.agg #[.int .i64 d1, .int .i64 d2, .int .i64 d3, .int .i64 d4, .slice d5 d6 d7], .int .i64 0] v (IntRet v (cnt 0 ee))) := Lib.hid (fun v h => cnt_all ee 0 M d1 d2 d3 d4 d5 d6 d7 v (by omega) (by rw [hM] at hee; exact hee.on h) (by have := h.size; omega))
  have hxl : Hid ((exprB (xM ee)).length ≤ 100000) := Lib.hid (by
    have C9 := of_all ee M d1 d2 d3 d4 d5 d6 d7 w
    have h9 : ∀ e : ET, ∀ B (v : EV) (W : World), EIn B W e v → (exprB (xM e)).length ≤ 50 * (xM e).nodes := exprM_len
    have := h9 ee _ _ w hee
    omega)
  have C22 : Hid (∀ (N9 : Nat) (k1 : Int) (k2 : ByteArray) (k3 k4 : Int) (k5 : Option Addr) (k6 k7 : Nat) (v : World), XIn N9 v (xM ee) ⟨k1, k2, k3, k4, k5, k6, k7⟩ → N9 ≤ v.heap.size → STab v → Calls Tryd.prog 22 #[.agg #[.int .i64 k1, .string k2, .int .i64 k3, .int .i64 k4, .slice k5 k6 k7]] v (StrRet v (exprT (xM ee)))) := Lib.hid (fun N9 k1 k2 k3 k4 k5 k6 k7 v h1 h2 h3 => expr_all (xM ee) N9 k1 k2 k3 k4 k5 k6 k7 v h1 h2 h3 hxl.out)
  have ST : Hid (∀ v, Below M w v → STab v) := Lib.hid (fun v h => hs.on h6 h)
  have c1 := cnt_le ep 0 (by omega)
  have c2 := cnt_le ee 0 (by omega)
  rw [hna] at hna6 ⊢
  rw [hnp] at hnp6 ⊢
  have HS := Lib.hid hs
  clear hTA hTP hep hee hok hnodeP hnodeE hM hna hnp hs
  generalize tmM K N G = tm at *
  generalize termT tm = rT at *
  generalize predS (uN an % 6) = prA at *
  generalize atomL TA = lA at *
  generalize ptM f o pn TP x1 x2 x3 y1 y2 y3 ep = pP at *
  generalize xM ee = xE at *
  generalize cnt 0 ep = n1 at *
  generalize cnt 0 ee = n2 at *
  have t1 : decide ((6 : Int) < (na : Int)) = false := decide_eq_false (by omega)
  have t2 : decide ((6 : Int) < (np : Int)) = false := decide_eq_false (by omega)
  have t3 : decide ((40 : Int) < (n1 : Int)) = false := decide_eq_false (by omega)
  have t4 : decide ((40 : Int) < (n2 : Int)) = false := decide_eq_false (by omega)
  have MX := HM.out
  have ch := Lib.hid (head13_calls _ (ST.out _ B0.out))
  go_enter Tryd.func4, Tryd.ntmps4
  go_wp2_with fail
  refine ch.out.mono ?_
  generalize World.alloc (World.alloc (World.alloc (World.alloc w _) _) _) _ = W0 at *
  rintro e w1 ⟨rfl, hb1⟩
  have B1 : Hid (Below M w w1) := Lib.hid (B0.out.trans (hb1.mono (by rw [S0.out]; omega)))
  have s1 : M + 4 ≤ w1.heap.size := by have := hb1.size; rw [S0.out] at this; exact this
  have y0 := (hb1.block M (by rw [S0.out]; omega)).trans Z0.out
  have y1 := (hb1.block (M + 1) (by rw [S0.out]; omega)).trans Z1.out
  have y2 := (hb1.block (M + 2) (by rw [S0.out]; omega)).trans Z2.out
  have y3 := (hb1.block (M + 3) (by rw [S0.out]; omega)).trans Z3.out
  clear hb1 ch
  have a1' := cellAt (i := 1) y1 rfl
  have p3' := cellAt (i := 3) y2 rfl
  have p10 := cellAt (i := 10) y2 rfl
  have p11 := cellAt (i := 11) y2 rfl
  have p12 := cellAt (i := 12) y2 rfl
  have p13 := cellAt (i := 13) y2 rfl
  have p14 := cellAt (i := 14) y2 rfl
  go_wp2_with fail
  refine (CNP.out w1 B1.out).mono ?_
  rintro e w2 ⟨rfl, hb2⟩
  have B2 : Hid (Below M w w2) := Lib.hid (B1.out.trans (hb2.mono (by omega)))
  have s2 : M + 4 ≤ w2.heap.size := Nat.le_trans s1 hb2.size
  have z0 := (hb2.block M (by omega)).trans y0
  have z1 := (hb2.block (M + 1) (by omega)).trans y1
  have z2 := (hb2.block (M + 2) (by omega)).trans y2
  have z3 := (hb2.block (M + 3) (by omega)).trans y3
  clear hb2 y0 y1 y2 y3 a1' p3' p10 p11 p12 p13 p14
  have r0 := cellAt (i := 0) z3 rfl
  have r1 := cellAt (i := 1) z3 rfl
  have r2 := cellAt (i := 2) z3 rfl
  have r3 := cellAt (i := 3) z3 rfl
  have r4 := cellAt (i := 4) z3 rfl
  go_wp2_with fail
  refine (CNE.out w2 B2.out).mono ?_
  rintro e w3 ⟨rfl, hb3⟩
  have B3 : Hid (Below M w w3) := Lib.hid (B2.out.trans (hb3.mono (by omega)))
  have s3 : M + 4 ≤ w3.heap.size := Nat.le_trans s2 hb3.size
  have x0' := (hb3.block M (by omega)).trans z0
  have x1' := (hb3.block (M + 1) (by omega)).trans z1
  have x2' := (hb3.block (M + 2) (by omega)).trans z2
  have x3' := (hb3.block (M + 3) (by omega)).trans z3
  have X0 := Lib.hid x0'
  have X1 := Lib.hid x1'
  have X2 := Lib.hid x2'
  have X3 := Lib.hid x3'
  clear hb3 z0 z1 z2 z3 r0 r1 r2 r3 r4 x0' x1' x2' x3'
  go_wp2_with fail
  have SD := Lib.hid (kpS X0.out X1.out X2.out X3.out (Below.drew (Below.refl (M + 4) w3)) (by show M + 4 ≤ w3.heap.size; exact s3))
  have BD : Hid (∀ v, Below (M + 4) w3 v → Below M w v) := Lib.hid (fun v h => B3.out.trans (h.mono (by omega)))
  go_region_held3 (fun w' => Below (M + 4) w3 w' ∧ M + 4 ≤ w'.heap.size ∧ w'.cell? ⟨M, 0, none⟩ = some (.int .i64 K) ∧ w'.cell? ⟨M, 1, none⟩ = some (.int .i64 N) ∧ w'.cell? ⟨M, 2, none⟩ = some (.int .i64 G) ∧ w'.cell? ⟨M + 1, 0, none⟩ = some (.int .i64 an) ∧ w'.cell? ⟨M + 1, 1, none⟩ = some (.slice aa na ac) ∧ w'.cell? ⟨M + 2, 0, none⟩ = some (.int .i64 f) ∧ w'.cell? ⟨M + 2, 1, none⟩ = some (.int .i64 o) ∧ w'.cell? ⟨M + 2, 2, none⟩ = some (.int .i64 pn) ∧ w'.cell? ⟨M + 2, 3, none⟩ = some (.slice a np cap) ∧ w'.cell? ⟨M + 2, 4, none⟩ = some (.int .i64 x1) ∧ w'.cell? ⟨M + 2, 5, none⟩ = some (.int .i64 x2) ∧ w'.cell? ⟨M + 2, 6, none⟩ = some (.int .i64 x3) ∧ w'.cell? ⟨M + 2, 7, none⟩ = some (.int .i64 y1) ∧ w'.cell? ⟨M + 2, 8, none⟩ = some (.int .i64 y2) ∧ w'.cell? ⟨M + 2, 9, none⟩ = some (.int .i64 y3) ∧ w'.cell? ⟨M + 2, 10, none⟩ = some (.int .i64 e1) ∧ w'.cell? ⟨M + 2, 11, none⟩ = some (.int .i64 e2) ∧ w'.cell? ⟨M + 2, 12, none⟩ = some (.int .i64 e3) ∧ w'.cell? ⟨M + 2, 13, none⟩ = some (.int .i64 e4) ∧ w'.cell? ⟨M + 2, 14, none⟩ = some (.slice e5 e6 e7) ∧ w'.cell? ⟨M + 3, 0, none⟩ = some (.int .i64 d1) ∧ w'.cell? ⟨M + 3, 1, none⟩ = some (.int .i64 d2) ∧ w'.cell? ⟨M + 3, 2, none⟩ = some (.int .i64 d3) ∧ w'.cell? ⟨M + 3, 3, none⟩ = some (.int .i64 d4) ∧ w'.cell? ⟨M + 3, 4, none⟩ = some (.slice d5 d6 d7))
    (first | (with_reducible exact SD.out) | (with_reducible exact kpC X0.out X1.out X2.out X3.out ‹Below (M + 4) w3 _ ∧ _ ∧ _ ∧ _ ∧ _ ∧ _ ∧ _ ∧ _ ∧ _ ∧ _ ∧ _ ∧ _ ∧ _ ∧ _ ∧ _ ∧ _ ∧ _ ∧ _ ∧ _ ∧ _ ∧ _ ∧ _ ∧ _ ∧ _ ∧ _ ∧ _ ∧ _› ‹Below _ _ _›))
    (first
      | (go_at_call 11; (with_reducible refine (CT.out _).mono ?_); rintro e w4 ⟨rfl, hb4⟩)
      | (go_at_call 12; (with_reducible refine (C12.out _ (ST.out _ (BD.out _ (And.left ‹Below (M + 4) w3 _ ∧ _ ∧ _ ∧ _ ∧ _ ∧ _ ∧ _ ∧ _ ∧ _ ∧ _ ∧ _ ∧ _ ∧ _ ∧ _ ∧ _ ∧ _ ∧ _ ∧ _ ∧ _ ∧ _ ∧ _ ∧ _ ∧ _ ∧ _ ∧ _ ∧ _ ∧ _›)))).mono ?_); rintro e w4 ⟨rfl, hb4⟩)
      | (go_at_call 13; (with_reducible refine (C13.out _ (ST.out _ (BD.out _ (And.left ‹Below (M + 4) w3 _ ∧ _ ∧ _ ∧ _ ∧ _ ∧ _ ∧ _ ∧ _ ∧ _ ∧ _ ∧ _ ∧ _ ∧ _ ∧ _ ∧ _ ∧ _ ∧ _ ∧ _ ∧ _ ∧ _ ∧ _ ∧ _ ∧ _ ∧ _ ∧ _ ∧ _ ∧ _›)))).mono ?_); rintro e w4 ⟨rfl, hb4⟩)
      | (go_at_call 14; (with_reducible refine (CA.out _ (BD.out _ (And.left ‹Below (M + 4) w3 _ ∧ _ ∧ _ ∧ _ ∧ _ ∧ _ ∧ _ ∧ _ ∧ _ ∧ _ ∧ _ ∧ _ ∧ _ ∧ _ ∧ _ ∧ _ ∧ _ ∧ _ ∧ _ ∧ _ ∧ _ ∧ _ ∧ _ ∧ _ ∧ _ ∧ _ ∧ _›))).mono ?_); rintro e w4 ⟨av, cv, rfl, hrow, hb4⟩)
      | (go_at_call 15; (with_reducible refine (atomString_calls prA _ lA _ _ _ (Nat.le_refl _) hrow (ST.out _ (BD.out _ (And.left ‹Below (M + 4) w3 _ ∧ _ ∧ _ ∧ _ ∧ _ ∧ _ ∧ _ ∧ _ ∧ _ ∧ _ ∧ _ ∧ _ ∧ _ ∧ _ ∧ _ ∧ _ ∧ _ ∧ _ ∧ _ ∧ _ ∧ _ ∧ _ ∧ _ ∧ _ ∧ _ ∧ _ ∧ _›))) hpr hal).mono ?_); rintro e w4 ⟨rfl, hb4⟩)
      | (go_at_call 16; (with_reducible refine (lawAtom_calls prA _ lA _ _ _ (Nat.le_refl _) hrow (ST.out _ (BD.out _ (And.left ‹Below (M + 4) w3 _ ∧ _ ∧ _ ∧ _ ∧ _ ∧ _ ∧ _ ∧ _ ∧ _ ∧ _ ∧ _ ∧ _ ∧ _ ∧ _ ∧ _ ∧ _ ∧ _ ∧ _ ∧ _ ∧ _ ∧ _ ∧ _ ∧ _ ∧ _ ∧ _ ∧ _ ∧ _›))) hpr hal).mono ?_); rintro e w4 ⟨rfl, hb4⟩)
      | (go_at_call 17; (with_reducible refine (CP.out _ (BD.out _ (And.left ‹Below (M + 4) w3 _ ∧ _ ∧ _ ∧ _ ∧ _ ∧ _ ∧ _ ∧ _ ∧ _ ∧ _ ∧ _ ∧ _ ∧ _ ∧ _ ∧ _ ∧ _ ∧ _ ∧ _ ∧ _ ∧ _ ∧ _ ∧ _ ∧ _ ∧ _ ∧ _ ∧ _ ∧ _›))).mono ?_); rintro e w4 ⟨cs, rfl, hptv, hb4⟩)
      | (go_at_call 18; (with_reducible refine (partStr_calls hptv (Nat.le_refl _) (ST.out _ (BD.out _ (And.left ‹Below (M + 4) w3 _ ∧ _ ∧ _ ∧ _ ∧ _ ∧ _ ∧ _ ∧ _ ∧ _ ∧ _ ∧ _ ∧ _ ∧ _ ∧ _ ∧ _ ∧ _ ∧ _ ∧ _ ∧ _ ∧ _ ∧ _ ∧ _ ∧ _ ∧ _ ∧ _ ∧ _ ∧ _›)))).mono ?_); rintro e w4 ⟨rfl, hb4⟩)
      | (go_at_call 19; (with_reducible refine (lawPart_calls hptv (Nat.le_refl _) (ST.out _ (BD.out _ (And.left ‹Below (M + 4) w3 _ ∧ _ ∧ _ ∧ _ ∧ _ ∧ _ ∧ _ ∧ _ ∧ _ ∧ _ ∧ _ ∧ _ ∧ _ ∧ _ ∧ _ ∧ _ ∧ _ ∧ _ ∧ _ ∧ _ ∧ _ ∧ _ ∧ _ ∧ _ ∧ _ ∧ _ ∧ _›)))).mono ?_); rintro e w4 ⟨rfl, hb4⟩)
      | (go_at_call 20; (with_reducible refine (CE.out _ (BD.out _ (And.left ‹Below (M + 4) w3 _ ∧ _ ∧ _ ∧ _ ∧ _ ∧ _ ∧ _ ∧ _ ∧ _ ∧ _ ∧ _ ∧ _ ∧ _ ∧ _ ∧ _ ∧ _ ∧ _ ∧ _ ∧ _ ∧ _ ∧ _ ∧ _ ∧ _ ∧ _ ∧ _ ∧ _ ∧ _›))).mono ?_); rintro e w4 ⟨k1, k2, k3, k4, k5, k6, k7, rfl, hxi, hb4⟩)
      | (go_at_call 21; (with_reducible refine (exprString_calls hxi (Nat.le_refl _) (ST.out _ (BD.out _ (And.left ‹Below (M + 4) w3 _ ∧ _ ∧ _ ∧ _ ∧ _ ∧ _ ∧ _ ∧ _ ∧ _ ∧ _ ∧ _ ∧ _ ∧ _ ∧ _ ∧ _ ∧ _ ∧ _ ∧ _ ∧ _ ∧ _ ∧ _ ∧ _ ∧ _ ∧ _ ∧ _ ∧ _ ∧ _›))) hxl.out).mono ?_); rintro e w4 ⟨rfl, hb4⟩)
      | (go_at_call 22; (with_reducible refine (C22.out _ _ _ _ _ _ _ _ _ hxi (Nat.le_refl _) (ST.out _ (BD.out _ (And.left ‹Below (M + 4) w3 _ ∧ _ ∧ _ ∧ _ ∧ _ ∧ _ ∧ _ ∧ _ ∧ _ ∧ _ ∧ _ ∧ _ ∧ _ ∧ _ ∧ _ ∧ _ ∧ _ ∧ _ ∧ _ ∧ _ ∧ _ ∧ _ ∧ _ ∧ _ ∧ _ ∧ _ ∧ _›)))).mono ?_); rintro e w4 ⟨rfl, hb4⟩))
  have hF : Below (M + 4) w3 w4 := And.left ‹Below (M + 4) w3 w4 ∧ _ ∧ _ ∧ _ ∧ _ ∧ _ ∧ _ ∧ _ ∧ _ ∧ _ ∧ _ ∧ _ ∧ _ ∧ _ ∧ _ ∧ _ ∧ _ ∧ _ ∧ _ ∧ _ ∧ _ ∧ _ ∧ _ ∧ _ ∧ _ ∧ _ ∧ _›
  have F4 := Lib.hid (BD.out _ hF)
  clear hF hb4
  go_wp2_with fail
  go_ret
  exact ⟨rfl, by rw [HM.out]; exact F4.out⟩
end Go.Proofs.YtaglbeokecbihaaDoor
