/- The variables of expressions, appended to a row. Written by mkszc.py. -/
import Derived.Test.YtaglbeokecbihaaDoorSzB
namespace Go.Proofs.YtaglbeokecbihaaDoor
open Go.RowKit
set_option linter.unusedVariables false
set_option linter.unusedSimpArgs false

/-- All blocks before M, but q, are as they were. -/
structure KeptA (q : Option Nat) (M : Nat) (w w' : World) : Prop where
  os : w'.os = w.os
  tape : w'.tape = w.tape
  output : w'.output = w.output
  size : w.heap.size ≤ w'.heap.size
  block : ∀ k, k < M → some k ≠ q → w'.heap[k]? = w.heap[k]?
theorem KeptA.of_below {q : Option Nat} {M : Nat} {w w' : World} (h : Below M w w') : KeptA q M w w' := ⟨h.os, h.tape, h.output, h.size, fun k hk _ => h.block k hk⟩
theorem KeptA.grown {q r : Option Nat} {M : Nat} {w w' w'' : World} (h : KeptA q M w w') (hg : w'.grownBy w'' r) (hM : M ≤ w'.heap.size) (hr : ∀ b, r = some b → q = some b ∨ M ≤ b) : KeptA q M w w'' :=
  ⟨hg.os.trans h.os, hg.tape.trans h.tape, hg.output.trans h.output, Nat.le_trans h.size hg.size, fun k hk hq => (hg.block k (by omega) (fun e => by
    rcases hr k e.symm with h1 | h1
    · exact hq h1.symm
    · omega)).trans (h.block k hk hq)⟩
theorem KeptA.below {q : Option Nat} {M L : Nat} {w w' : World} (h : KeptA q M w w') (hL : L ≤ M) (hq : ∀ b, q = some b → L ≤ b) : Below L w w' :=
  ⟨h.os, h.tape, h.output, h.size, fun k hk => h.block k (by omega) (fun e => by have := hq k e.symm; omega)⟩
theorem KeptA.grownBy {q : Option Nat} {w w' : World} (h : KeptA q w.heap.size w w') : w.grownBy w' q := ⟨h.os, h.tape, h.output, h.size, h.block⟩
/-- u, a row of the call's own, has grown to us; all else is as it was. -/
def AvRet (L : Nat) (w : World) (u : Value) (us : List ByteArray) (e : Ending) (w' : World) : Prop := ∃ v', e = .returned v' ∧ SO L w' v' us ∧ w.grownBy w' u.ownBlock ∧ ∀ b, v'.ownBlock = some b → u.ownBlock = some b ∨ w.heap.size ≤ b
def AvAt (x : X) : Prop := ∀ (N L : Nat) (k1 : Int) (k2 : ByteArray) (k3 k4 : Int) (k5 : Option Addr) (k6 k7 : Nat) (u : Value) (ts : List ByteArray) (w : World), XIn N w x ⟨k1, k2, k3, k4, k5, k6, k7⟩ → SO L w u ts → N ≤ L → L ≤ w.heap.size → ts.length + x.nodes ≤ 10000 → Calls Tryd.prog 47 #[.agg #[.int .i64 k1, .string k2, .int .i64 k3, .int .i64 k4, .slice k5 k6 k7], u] w (AvRet L w u (ts ++ xVars x))
attribute [local go_sem ↓] app_rule
set_option maxRecDepth 100000 in
set_option maxHeartbeats 1000000 in
theorem av_leaf (t : Tm) : AvAt (.leaf t) := by
  intro N L k1 k2 k3 k4 k5 k6 k7 u ts w hx hu hNL hL hn
  obtain ⟨hv, hok⟩ := hx
  have CI := Lib.hid (isOp_calls (w.alloc (.cells #[.int .i64 t.kind, .string t.text, .int .i64 t.n, .int .i64 0, .slice none 0 0] 57)) (show XIn N w (.leaf t) ⟨t.kind, t.text, t.n, 0, none, 0, 0⟩ from ⟨rfl, hok⟩))
  simp only [XV.mk.injEq] at hv
  obtain ⟨rfl, rfl, rfl, rfl, rfl, rfl, rfl⟩ := hv
  obtain ⟨M, hM⟩ : ∃ M, w.heap.size = M := ⟨_, rfl⟩
  have HM := Lib.hid hM
  have HU := Lib.hid hu
  have B1 : Hid (Below M w (w.alloc (.cells #[.int .i64 t.kind, .string t.text, .int .i64 t.n, .int .i64 0, .slice none 0 0] 57))) := Lib.hid (by rw [← hM]; exact (Below.refl _ _).alloc (Nat.le_refl _) _)
  have Z1 : Hid ((w.alloc (.cells #[.int .i64 t.kind, .string t.text, .int .i64 t.n, .int .i64 0, .slice none 0 0] 57)).heap[M]? = some (.cells #[.int .i64 t.kind, .string t.text, .int .i64 t.n, .int .i64 0, .slice none 0 0] 57 (0, 0))) := Lib.hid (by rw [← hM]; exact box5 w _ _ _ _ _ 57)
  have S1 : Hid ((w.alloc (.cells #[.int .i64 t.kind, .string t.text, .int .i64 t.n, .int .i64 0, .slice none 0 0] 57)).heap.size = M + 1) := Lib.hid (by simp [hM])
  have HOK := Lib.hid hok
  have LL : Hid (ts.length + (varsL [t]).length ≤ 100000) := Lib.hid (by have := varsL_len [t]; simp only [X.nodes] at hn; simp only [List.length_cons, List.length_nil] at this; omega)
  show Calls _ _ _ _ (AvRet L w u (ts ++ varsL [t]))
  clear hM hok hu hn
  have MX := HM.out
  go_enter Tryd.func47, Tryd.ntmps47
  go_wp2_with fail
  refine CI.out.mono ?_
  generalize World.alloc w _ = W1 at *
  rintro e w2 ⟨rfl, hb2⟩
  have b2 : Below M w w2 := B1.out.trans (hb2.mono (by rw [S1.out]; omega))
  have z2 := (hb2.block M (by rw [S1.out]; omega)).trans Z1.out
  have s2 : M + 1 ≤ w2.heap.size := by have := hb2.size; rw [S1.out] at this; exact this
  obtain ⟨H, hH⟩ : ∃ H, w2.heap.size = H := ⟨_, rfl⟩
  have CT := Lib.hid (termVars_calls _ [t] 1 _ _ (by simp [hH]) (tm_one HOK.out hH) (by simp))
  have B3 : Hid (Below M w (w2.alloc (.cells #[.int .i64 t.kind, .string t.text, .int .i64 t.n] 44))) := Lib.hid (b2.alloc (by omega) _)
  have S3 : Hid ((w2.alloc (.cells #[.int .i64 t.kind, .string t.text, .int .i64 t.n] 44)).heap.size = H + 1) := Lib.hid (by simp [hH])
  obtain ⟨c0, c1, c2, c3, c4⟩ := cells5 z2
  have HH := Lib.hid hH
  have hMH : M ≤ H := by omega
  clear hb2 b2 z2 hH s2 CI
  have HX := HH.out
  go_wp2_with fail
  refine CT.out.mono ?_
  generalize World.alloc w2 _ = W3 at *
  rintro e w4 ⟨x, rfl, ho4, hb4⟩
  have b4 : Below M w w4 := B3.out.trans (hb4.mono (by rw [S3.out]; omega))
  have s4 : M ≤ w4.heap.size := by have := hb4.size; rw [S3.out] at this; omega
  obtain ⟨v', w7, hrun, hown, hgr, hat⟩ := app_ss (HU.out.below (by rw [HM.out]; exact b4)) ho4 LL.out (by omega)
  have RS : Hid (SO L w7 v' (ts ++ varsL [t]) ∧ w.grownBy w7 u.ownBlock ∧ ∀ b, v'.ownBlock = some b → u.ownBlock = some b ∨ w.heap.size ≤ b) := Lib.hid (by
    rw [HM.out]
    refine ⟨hown, KeptA.grownBy (by rw [HM.out]; exact (KeptA.of_below b4).grown hgr s4 (fun b hb => .inl hb)), fun b hb => (hat b hb).imp id (fun h => by omega)⟩)
  clear hown hgr hat ho4 hb4 b4
  go_wp2_with fail
  go_ret
  exact ⟨v', rfl, RS.out.1, RS.out.2⟩
theorem avS {M g o c : Nat} {a1 a3 a4 b1 b3 b4 : Int} {a2 b2 : ByteArray} {a5 b5 : Option Addr} {a6 a7 b6 b7 : Nat} {q : Option Nat} {w w' : World} (hF : ∀ w', KeptA q M w w' → w'.cell? ⟨g, 0, none⟩ = some (.int .i64 a1) ∧ w'.cell? ⟨g, 1, none⟩ = some (.string a2) ∧ w'.cell? ⟨g, 2, none⟩ = some (.int .i64 a3) ∧ w'.cell? ⟨g, 3, none⟩ = some (.int .i64 a4) ∧ w'.cell? ⟨g, 4, none⟩ = some (.slice a5 a6 a7) ∧ w'.cell? ⟨g, 5, none⟩ = some (.int .i64 b1) ∧ w'.cell? ⟨g, 6, none⟩ = some (.string b2) ∧ w'.cell? ⟨g, 7, none⟩ = some (.int .i64 b3) ∧ w'.cell? ⟨g, 8, none⟩ = some (.int .i64 b4) ∧ w'.cell? ⟨g, 9, none⟩ = some (.slice b5 b6 b7)) (hb : KeptA q M w w') (hs : M + 1 ≤ w'.heap.size) (hz : w'.heap[M]? = some (.cells #[.int .i64 0, .string ⟨#[]⟩, .int .i64 0, .int .i64 o, .slice (some ⟨g, 0, none⟩) 2 c] 57 (0, 0))) : KeptA q M w w' ∧ M + 1 ≤ w'.heap.size ∧ w'.heap[M]? = some (.cells #[.int .i64 0, .string ⟨#[]⟩, .int .i64 0, .int .i64 o, .slice (some ⟨g, 0, none⟩) 2 c] 57 (0, 0)) ∧ w'.cell? ⟨M, 4, none⟩ = some (.slice (some ⟨g, 0, none⟩) 2 c) ∧ w'.cell? ⟨g, 0, none⟩ = some (.int .i64 a1) ∧ w'.cell? ⟨g, 1, none⟩ = some (.string a2) ∧ w'.cell? ⟨g, 2, none⟩ = some (.int .i64 a3) ∧ w'.cell? ⟨g, 3, none⟩ = some (.int .i64 a4) ∧ w'.cell? ⟨g, 4, none⟩ = some (.slice a5 a6 a7) ∧ w'.cell? ⟨g, 5, none⟩ = some (.int .i64 b1) ∧ w'.cell? ⟨g, 6, none⟩ = some (.string b2) ∧ w'.cell? ⟨g, 7, none⟩ = some (.int .i64 b3) ∧ w'.cell? ⟨g, 8, none⟩ = some (.int .i64 b4) ∧ w'.cell? ⟨g, 9, none⟩ = some (.slice b5 b6 b7) :=
  ⟨hb, hs, hz, cellAt (i := 4) hz rfl, hF w' hb⟩
theorem avC {M g o c : Nat} {a1 a3 a4 b1 b3 b4 : Int} {a2 b2 : ByteArray} {a5 b5 : Option Addr} {a6 a7 b6 b7 : Nat} {q r : Option Nat} {w w' w'' : World} (hF : ∀ w', KeptA q M w w' → w'.cell? ⟨g, 0, none⟩ = some (.int .i64 a1) ∧ w'.cell? ⟨g, 1, none⟩ = some (.string a2) ∧ w'.cell? ⟨g, 2, none⟩ = some (.int .i64 a3) ∧ w'.cell? ⟨g, 3, none⟩ = some (.int .i64 a4) ∧ w'.cell? ⟨g, 4, none⟩ = some (.slice a5 a6 a7) ∧ w'.cell? ⟨g, 5, none⟩ = some (.int .i64 b1) ∧ w'.cell? ⟨g, 6, none⟩ = some (.string b2) ∧ w'.cell? ⟨g, 7, none⟩ = some (.int .i64 b3) ∧ w'.cell? ⟨g, 8, none⟩ = some (.int .i64 b4) ∧ w'.cell? ⟨g, 9, none⟩ = some (.slice b5 b6 b7)) (h : KeptA q M w w' ∧ M + 1 ≤ w'.heap.size ∧ w'.heap[M]? = some (.cells #[.int .i64 0, .string ⟨#[]⟩, .int .i64 0, .int .i64 o, .slice (some ⟨g, 0, none⟩) 2 c] 57 (0, 0)) ∧ w'.cell? ⟨M, 4, none⟩ = some (.slice (some ⟨g, 0, none⟩) 2 c) ∧ w'.cell? ⟨g, 0, none⟩ = some (.int .i64 a1) ∧ w'.cell? ⟨g, 1, none⟩ = some (.string a2) ∧ w'.cell? ⟨g, 2, none⟩ = some (.int .i64 a3) ∧ w'.cell? ⟨g, 3, none⟩ = some (.int .i64 a4) ∧ w'.cell? ⟨g, 4, none⟩ = some (.slice a5 a6 a7) ∧ w'.cell? ⟨g, 5, none⟩ = some (.int .i64 b1) ∧ w'.cell? ⟨g, 6, none⟩ = some (.string b2) ∧ w'.cell? ⟨g, 7, none⟩ = some (.int .i64 b3) ∧ w'.cell? ⟨g, 8, none⟩ = some (.int .i64 b4) ∧ w'.cell? ⟨g, 9, none⟩ = some (.slice b5 b6 b7)) (hg : w'.grownBy w'' r) (hr : ∀ b, r = some b → q = some b ∨ M < b) (hq : ∀ b, q = some b → b < M) : KeptA q M w w'' ∧ M + 1 ≤ w''.heap.size ∧ w''.heap[M]? = some (.cells #[.int .i64 0, .string ⟨#[]⟩, .int .i64 0, .int .i64 o, .slice (some ⟨g, 0, none⟩) 2 c] 57 (0, 0)) ∧ w''.cell? ⟨M, 4, none⟩ = some (.slice (some ⟨g, 0, none⟩) 2 c) ∧ w''.cell? ⟨g, 0, none⟩ = some (.int .i64 a1) ∧ w''.cell? ⟨g, 1, none⟩ = some (.string a2) ∧ w''.cell? ⟨g, 2, none⟩ = some (.int .i64 a3) ∧ w''.cell? ⟨g, 3, none⟩ = some (.int .i64 a4) ∧ w''.cell? ⟨g, 4, none⟩ = some (.slice a5 a6 a7) ∧ w''.cell? ⟨g, 5, none⟩ = some (.int .i64 b1) ∧ w''.cell? ⟨g, 6, none⟩ = some (.string b2) ∧ w''.cell? ⟨g, 7, none⟩ = some (.int .i64 b3) ∧ w''.cell? ⟨g, 8, none⟩ = some (.int .i64 b4) ∧ w''.cell? ⟨g, 9, none⟩ = some (.slice b5 b6 b7) :=
  avS hF (h.1.grown hg (by have := h.2.1; omega) (fun b hb => (hr b hb).imp id (fun h => by omega))) (Nat.le_trans h.2.1 hg.size) ((hg.block M (by have := h.2.1; omega) (fun e => by
    rcases hr M e.symm with h1 | h1
    · have := hq M h1; omega
    · omega)).trans h.2.2.1)
set_option maxRecDepth 100000 in
set_option maxHeartbeats 2000000 in
theorem av_two (o : Nat) (xa xb : X) (iha : AvAt xa) (ihb : AvAt xb) : AvAt (.op o xa xb) := by
  intro N L k1 k2 k3 k4 k5 k6 k7 u ts w hx hu hNL hL hn
  have hx0 := hx
  obtain ⟨g, c, va, vb, hv, ho, hg, fa, fb, ha, hb⟩ := hx
  simp only [XV.mk.injEq] at hv
  obtain ⟨rfl, rfl, rfl, rfl, rfl, rfl, h7⟩ := hv
  obtain rfl : c = k7 := by first | exact h7 | exact h7.symm
  have CI := Lib.hid (isOp_calls (w.alloc (.cells #[.int .i64 0, .string ⟨#[]⟩, .int .i64 0, .int .i64 o, .slice (some ⟨g, 0, none⟩) 2 c] 57)) hx0)
  obtain ⟨a1, a2, a3, a4, a5, a6, a7⟩ := va
  obtain ⟨b1, b2, b3, b4, b5, b6, b7⟩ := vb
  simp only [X.nodes] at hn
  obtain ⟨M, hM⟩ : ∃ M, w.heap.size = M := ⟨_, rfl⟩
  have HM := Lib.hid hM
  have hNM : N ≤ M := by omega
  have hLM : L ≤ M := by omega
  have hqL : ∀ b, u.ownBlock = some b → L ≤ b := fun b hb => (hu.lt b hb).1
  have HQ : Hid (∀ b, u.ownBlock = some b → b < M) := Lib.hid (fun b hb => by have := (hu.lt b hb).2; omega)
  have lx := xVars_len xa
  have CA : Hid (∀ v, Below M w v → Calls Tryd.prog 47 #[.agg #[.int .i64 a1, .string a2, .int .i64 a3, .int .i64 a4, .slice a5 a6 a7], u] v (AvRet L v u (ts ++ xVars xa))) := Lib.hid (fun v h => iha N L _ _ _ _ _ _ _ u ts v (ha.on (h.mono hNM)) (hu.below (by rw [hM]; exact h)) hNL (by have := h.size; omega) (by omega))
  have CB : Hid (∀ v u', KeptA u.ownBlock M w v → SO L v u' (ts ++ xVars xa) → Calls Tryd.prog 47 #[.agg #[.int .i64 b1, .string b2, .int .i64 b3, .int .i64 b4, .slice b5 b6 b7], u'] v (AvRet L v u' ((ts ++ xVars xa) ++ xVars xb))) := Lib.hid (fun v u' h h2 => ihb N L _ _ _ _ _ _ _ u' _ v (hb.on ((h.below hLM hqL).mono hNL)) h2 hNL (by have := h.size; omega) (by rw [List.length_append]; omega))
  have FF : Hid (∀ w', KeptA u.ownBlock M w w' → w'.cell? ⟨g, 0, none⟩ = some (.int .i64 a1) ∧ w'.cell? ⟨g, 1, none⟩ = some (.string a2) ∧ w'.cell? ⟨g, 2, none⟩ = some (.int .i64 a3) ∧ w'.cell? ⟨g, 3, none⟩ = some (.int .i64 a4) ∧ w'.cell? ⟨g, 4, none⟩ = some (.slice a5 a6 a7) ∧ w'.cell? ⟨g, 5, none⟩ = some (.int .i64 b1) ∧ w'.cell? ⟨g, 6, none⟩ = some (.string b2) ∧ w'.cell? ⟨g, 7, none⟩ = some (.int .i64 b3) ∧ w'.cell? ⟨g, 8, none⟩ = some (.int .i64 b4) ∧ w'.cell? ⟨g, 9, none⟩ = some (.slice b5 b6 b7)) := Lib.hid (fun v h =>
    have cl := fun {q : Nat} {u : Value} (h9 : w.cell? ⟨g, q, none⟩ = some u) => ((h.below hLM hqL).cell (p := ⟨g, q, none⟩) (show g < L by omega)).trans h9
    ⟨cl (fa 0 _ rfl), cl (fa 1 _ rfl), cl (fa 2 _ rfl), cl (fa 3 _ rfl), cl (fa 4 _ rfl), cl (fb 0 _ rfl), cl (fb 1 _ rfl), cl (fb 2 _ rfl), cl (fb 3 _ rfl), cl (fb 4 _ rfl)⟩)
  have B0 : Hid (Below M w (w.alloc (.cells #[.int .i64 0, .string ⟨#[]⟩, .int .i64 0, .int .i64 o, .slice (some ⟨g, 0, none⟩) 2 c] 57))) := Lib.hid (by rw [← hM]; exact (Below.refl _ _).alloc (Nat.le_refl _) _)
  have Z0 : Hid ((w.alloc (.cells #[.int .i64 0, .string ⟨#[]⟩, .int .i64 0, .int .i64 o, .slice (some ⟨g, 0, none⟩) 2 c] 57)).heap[M]? = some (.cells #[.int .i64 0, .string ⟨#[]⟩, .int .i64 0, .int .i64 o, .slice (some ⟨g, 0, none⟩) 2 c] 57 (0, 0))) := Lib.hid (by rw [← hM]; exact box5 w _ _ _ _ _ 57)
  have S0 : Hid ((w.alloc (.cells #[.int .i64 0, .string ⟨#[]⟩, .int .i64 0, .int .i64 o, .slice (some ⟨g, 0, none⟩) 2 c] 57)).heap.size = M + 1) := Lib.hid (by simp [hM])
  clear iha ihb ha hb fa fb hM hn lx hqL hu
  show Calls _ _ _ _ (AvRet L w u (ts ++ (xVars xa ++ xVars xb)))
  rw [← List.append_assoc]
  generalize ts ++ xVars xa = ta at *
  generalize xVars xb = tb at *
  have MX := HM.out
  go_enter Tryd.func47, Tryd.ntmps47
  go_wp2_with fail
  refine CI.out.mono ?_
  generalize World.alloc w _ = W1 at *
  rintro e w2 ⟨rfl, hb2⟩
  have bw2 : Below M w w2 := B0.out.trans (hb2.mono (by rw [S0.out]; omega))
  have z2 := (hb2.block M (by rw [S0.out]; omega)).trans Z0.out
  have s2 : M + 1 ≤ w2.heap.size := by have := hb2.size; rw [S0.out] at this; exact this
  have q0 : Below M w w2.drew := bw2.drew
  have k0 : KeptA u.ownBlock M w w2.drew := KeptA.of_below q0
  have s0 : M + 1 ≤ w2.drew.heap.size := s2
  have z0 : w2.drew.heap[M]? = some (.cells #[.int .i64 0, .string ⟨#[]⟩, .int .i64 0, .int .i64 o, .slice (some ⟨g, 0, none⟩) 2 c] 57 (0, 0)) := z2
  obtain ⟨c0, c1, c2, c3, c4⟩ := cells5 z2
  clear hb2 CI
  go_wp2_with fail
  go_region_held3 (fun w' => KeptA u.ownBlock M w w' ∧ M + 1 ≤ w'.heap.size ∧ w'.heap[M]? = some (.cells #[.int .i64 0, .string ⟨#[]⟩, .int .i64 0, .int .i64 o, .slice (some ⟨g, 0, none⟩) 2 c] 57 (0, 0)) ∧ w'.cell? ⟨M, 4, none⟩ = some (.slice (some ⟨g, 0, none⟩) 2 c) ∧ w'.cell? ⟨g, 0, none⟩ = some (.int .i64 a1) ∧ w'.cell? ⟨g, 1, none⟩ = some (.string a2) ∧ w'.cell? ⟨g, 2, none⟩ = some (.int .i64 a3) ∧ w'.cell? ⟨g, 3, none⟩ = some (.int .i64 a4) ∧ w'.cell? ⟨g, 4, none⟩ = some (.slice a5 a6 a7) ∧ w'.cell? ⟨g, 5, none⟩ = some (.int .i64 b1) ∧ w'.cell? ⟨g, 6, none⟩ = some (.string b2) ∧ w'.cell? ⟨g, 7, none⟩ = some (.int .i64 b3) ∧ w'.cell? ⟨g, 8, none⟩ = some (.int .i64 b4) ∧ w'.cell? ⟨g, 9, none⟩ = some (.slice b5 b6 b7))
    (first | (with_reducible exact avS FF.out k0 s0 z0) | (with_reducible exact avC FF.out ‹KeptA _ M w _ ∧ _ ∧ _ ∧ _ ∧ _ ∧ _ ∧ _ ∧ _ ∧ _ ∧ _ ∧ _ ∧ _ ∧ _ ∧ _› hg5 hq5 HQ.out) | (with_reducible exact avC FF.out ‹KeptA _ M w _ ∧ _ ∧ _ ∧ _ ∧ _ ∧ _ ∧ _ ∧ _ ∧ _ ∧ _ ∧ _ ∧ _ ∧ _ ∧ _› hg4 (fun b h => .inl h) HQ.out))
    (first
      | (go_at_call 47; (with_reducible refine (CA.out _ q0).mono ?_); rintro e w4 ⟨v4, rfl, ho4, hg4, hat4⟩; have hq5 : ∀ b, v4.ownBlock = some b → u.ownBlock = some b ∨ M < b := (fun b hb => (hat4 b hb).imp id (fun h => (by omega))))
      | (go_at_call 47; (with_reducible refine (CB.out _ _ (And.left ‹KeptA _ M w _ ∧ _ ∧ _ ∧ _ ∧ _ ∧ _ ∧ _ ∧ _ ∧ _ ∧ _ ∧ _ ∧ _ ∧ _ ∧ _›) ho4).mono ?_); rintro e w5 ⟨v5, rfl, ho5, hg5, hat5⟩))
  have RS : Hid (SO L w5 v5 (ta ++ tb) ∧ w.grownBy w5 u.ownBlock ∧ ∀ b, v5.ownBlock = some b → u.ownBlock = some b ∨ w.heap.size ≤ b) := Lib.hid (by
    rw [HM.out]
    have k4 := k0.grown hg4 (by omega) (fun b hb => .inl hb)
    have s4 : M + 1 ≤ w4.heap.size := Nat.le_trans s0 hg4.size
    have k5 := k4.grown hg5 (by omega) (fun b hb => (hq5 b hb).imp id (fun h => by omega))
    refine ⟨ho5, KeptA.grownBy (by rw [HM.out]; exact k5), fun b hb => ?_⟩
    rcases hat5 b hb with h1 | h1
    · exact (hq5 b h1).imp id (fun h => by omega)
    · exact .inr (by omega))
  clear ho4 ho5 hg4 hg5 hat4 hat5 hq5
  go_wp2_with fail
  go_ret
  exact ⟨v5, rfl, RS.out.1, RS.out.2⟩
theorem av_all : ∀ x : X, AvAt x
  | .leaf t => av_leaf t
  | .op o a b => av_two o a b (av_all a) (av_all b)
set_option maxRecDepth 100000 in
set_option maxHeartbeats 1000000 in
/-- Expr.Vars. -/
theorem exprVars_calls {x : X} {N : Nat} {k1 : Int} {k2 : ByteArray} {k3 k4 : Int} {k5 : Option Addr} {k6 k7 : Nat} {w : World} (hx : XIn N w x ⟨k1, k2, k3, k4, k5, k6, k7⟩) (hN : N ≤ w.heap.size) (hn : x.nodes ≤ 1000) : Calls Tryd.prog 29 #[.agg #[.int .i64 k1, .string k2, .int .i64 k3, .int .i64 k4, .slice k5 k6 k7]] w (SsRet w (xVars x)) := by
  obtain ⟨M, hM⟩ : ∃ M, w.heap.size = M := ⟨_, rfl⟩
  have HM := Lib.hid hM
  have B1 : Hid (Below M w (w.alloc (.cells #[.int .i64 k1, .string k2, .int .i64 k3, .int .i64 k4, .slice k5 k6 k7] 57))) := Lib.hid (by rw [← hM]; exact (Below.refl _ _).alloc (Nat.le_refl _) _)
  have S1 : Hid ((w.alloc (.cells #[.int .i64 k1, .string k2, .int .i64 k3, .int .i64 k4, .slice k5 k6 k7] 57)).heap.size = M + 1) := Lib.hid (by simp [hM])
  have CA := Lib.hid (av_all x N M k1 k2 k3 k4 k5 k6 k7 (.slice none 0 0) [] (w.alloc (.cells #[.int .i64 k1, .string k2, .int .i64 k3, .int .i64 k4, .slice k5 k6 k7] 57)) (hx.on (B1.out.mono (by omega))) (so_nil _ _) (by omega) (by rw [S1.out]; omega) (by simp only [List.length_nil]; omega))
  clear hM hx hN hn
  have MX := HM.out
  go_enter Tryd.func29, Tryd.ntmps29
  go_wp2_with fail
  refine CA.out.mono ?_
  generalize World.alloc w _ = W1 at *
  rintro e w4 ⟨v4, rfl, ho4, hg4, hat4⟩
  have RS : Hid (SO w.heap.size w4 v4 (xVars x) ∧ Below w.heap.size w w4) := Lib.hid (by rw [HM.out]; exact ⟨ho4, B1.out.grown hg4 (by rw [S1.out]; omega) (fun k hk => by cases hk)⟩)
  clear ho4 hg4 hat4 CA
  go_wp2_with fail
  go_ret
  exact ⟨v4, rfl, RS.out.1, RS.out.2⟩
set_option maxRecDepth 100000 in
set_option maxHeartbeats 1000000 in
/-- Atom.Vars. -/
theorem atomVars_calls (pred : ByteArray) (a : Option Addr) (l : List Tm) (c : Nat) (N : Nat) (w : World) (hN : N ≤ w.heap.size) (hr : TmRow N w a l) (hn : l.length ≤ 1000) : Calls Tryd.prog 26 #[.agg #[.string pred, .slice a l.length c]] w (SsRet w (varsL l)) := by
  obtain ⟨M, hM⟩ : ∃ M, w.heap.size = M := ⟨_, rfl⟩
  have HM := Lib.hid hM
  have B1 : Hid (Below M w (w.alloc (.cells #[.string pred, .slice a l.length c] 49))) := Lib.hid (by rw [← hM]; exact (Below.refl _ _).alloc (Nat.le_refl _) _)
  have S1 : Hid ((w.alloc (.cells #[.string pred, .slice a l.length c] 49)).heap.size = M + 1) := Lib.hid (by simp [hM])
  have CA := Lib.hid (termVars_calls a l c N (w.alloc (.cells #[.string pred, .slice a l.length c] 49)) (by rw [S1.out]; omega) (hr.on (B1.out.mono (by omega))) hn)
  obtain ⟨n, hl⟩ : ∃ n, l.length = n := ⟨_, rfl⟩
  rw [hl] at CA B1 S1 ⊢
  clear hM hr hN hl
  have MX := HM.out
  go_enter Tryd.func26, Tryd.ntmps26
  go_wp2_with fail
  refine CA.out.mono ?_
  generalize World.alloc w _ = W1 at *
  rintro e w4 ⟨v4, rfl, ho4, hb4⟩
  have RS : Hid (SO w.heap.size w4 v4 (varsL l) ∧ Below w.heap.size w w4) := Lib.hid (by rw [HM.out]; exact ⟨ho4.mono (by rw [S1.out]; omega), B1.out.trans (hb4.mono (by rw [S1.out]; omega))⟩)
  clear ho4 hb4 CA
  go_wp2_with fail
  go_ret
  exact ⟨v4, rfl, RS.out.1, RS.out.2⟩
end Go.Proofs.YtaglbeokecbihaaDoor
