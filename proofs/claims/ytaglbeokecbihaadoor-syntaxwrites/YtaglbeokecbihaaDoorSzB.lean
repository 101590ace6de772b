/- The variables of expressions. Written by mkszb.py. -/
import Derived.Test.YtaglbeokecbihaaDoorSzA
import Derived.Deep.RegionHeld3
namespace Go.Proofs.YtaglbeokecbihaaDoor
open Go.RowKit
set_option linter.unusedVariables false
set_option linter.unusedSimpArgs false

theorem tm_one {w : World} {t : Tm} (hok : TmOK t) {H : Nat} (hH : w.heap.size = H) : TmRow (H + 1) (w.alloc (.cells #[.int .i64 t.kind, .string t.text, .int .i64 t.n] 44)) (some ⟨H, 0, none⟩) [t] := by
  subst hH
  obtain ⟨c0, c1, c2, _⟩ := cells3 (box3 w (.int .i64 t.kind) (.string t.text) (.int .i64 t.n) 44)
  refine ⟨fun x hx => by rw [List.mem_singleton.1 hx]; exact hok, .inr ⟨w.heap.size, rfl, by omega, fun i hi => ?_⟩⟩
  obtain rfl : i = 0 := by simpa using hi
  exact ⟨c0, c1, c2⟩
theorem tm_two {w : World} {t s : Tm} (hok : TmOK t) (hos : TmOK s) {H : Nat} (hH : w.heap.size = H) : TmRow (H + 1) (w.alloc (.cells #[.int .i64 t.kind, .string t.text, .int .i64 t.n, .int .i64 s.kind, .string s.text, .int .i64 s.n] 44)) (some ⟨H, 0, none⟩) [t, s] := by
  subst hH
  have z := box16 w #[.int .i64 t.kind, .string t.text, .int .i64 t.n, .int .i64 s.kind, .string s.text, .int .i64 s.n] 44
  refine ⟨fun x hx => ?_, .inr ⟨w.heap.size, rfl, by omega, fun i hi => ?_⟩⟩
  · rcases List.mem_cons.1 hx with rfl | hx
    · exact hok
    · rw [List.mem_singleton.1 hx]; exact hos
  · have h2 : i < 2 := by simpa using hi
    rcases Nat.lt_or_ge i 1 with h | h
    · obtain rfl : i = 0 := by omega
      exact ⟨cellAt (i := 0) z rfl, cellAt (i := 1) z rfl, cellAt (i := 2) z rfl⟩
    · obtain rfl : i = 1 := by omega
      exact ⟨cellAt (i := 3) z rfl, cellAt (i := 4) z rfl, cellAt (i := 5) z rfl⟩
def xVars : X → List ByteArray
  | .leaf t => varsL [t]
  | .op _ a b => xVars a ++ xVars b
theorem xVars_len : ∀ x : X, (xVars x).length ≤ x.nodes
  | .leaf t => by have := varsL_len [t]; simpa [xVars, X.nodes] using this
  | .op _ a b => by have := xVars_len a; have := xVars_len b; simp only [xVars, X.nodes, List.length_append]; omega
/-- A row of texts from block M on comes back. -/
def SsL (M : Nat) (v : World) (ts : List ByteArray) (e : Ending) (w' : World) : Prop := ∃ u, e = .returned u ∧ SO M w' u ts ∧ Below v.heap.size v w'
theorem SsRet.low {M : Nat} {v : World} {ts : List ByteArray} {e : Ending} {w' : World} (h : SsRet v ts e w') (hM : M ≤ v.heap.size) : SsL M v ts e w' := by
  obtain ⟨u, h1, h2, h3⟩ := h; exact ⟨u, h1, h2.mono hM, h3⟩
def InAt (x : X) : Prop := ∀ (N : Nat) (k1 : Int) (k2 : ByteArray) (k3 k4 : Int) (k5 : Option Addr) (k6 k7 : Nat) (w : World), XIn N w x ⟨k1, k2, k3, k4, k5, k6, k7⟩ → N ≤ w.heap.size → x.nodes ≤ 1000 → Calls Tryd.prog 30 #[.agg #[.int .i64 k1, .string k2, .int .i64 k3, .int .i64 k4, .slice k5 k6 k7]] w (SsRet w (xVars x))
set_option maxRecDepth 100000 in
set_option maxHeartbeats 1000000 in
theorem in_leaf (t : Tm) : InAt (.leaf t) := by
  intro N k1 k2 k3 k4 k5 k6 k7 w hx hN _
  obtain ⟨hv, hok⟩ := hx
  simp only [XV.mk.injEq] at hv
  obtain ⟨rfl, rfl, rfl, rfl, rfl, rfl, rfl⟩ := hv
  obtain ⟨M, hM⟩ : ∃ M, w.heap.size = M := ⟨_, rfl⟩
  have HM := Lib.hid hM
  have s1 : (w.alloc (.cells #[.int .i64 t.kind, .string t.text, .int .i64 t.n, .int .i64 0, .slice none 0 0] 57)).heap.size = M + 1 := by simp [hM]
  have CN := Lib.hid (names_calls _ [t] 1 _ _ (by simp [hM]) (tm_one hok s1) (by simp))
  have B2 : Hid (Below M w ((w.alloc (.cells #[.int .i64 t.kind, .string t.text, .int .i64 t.n, .int .i64 0, .slice none 0 0] 57)).alloc (.cells #[.int .i64 t.kind, .string t.text, .int .i64 t.n] 44))) := Lib.hid (by rw [← hM]; exact below2 w _ _)
  have S2 : Hid (M ≤ ((w.alloc (.cells #[.int .i64 t.kind, .string t.text, .int .i64 t.n, .int .i64 0, .slice none 0 0] 57)).alloc (.cells #[.int .i64 t.kind, .string t.text, .int .i64 t.n] 44)).heap.size) := Lib.hid (by simp [hM]; omega)
  clear hM s1 hok
  have MX := HM.out
  go_enter Tryd.func30, Tryd.ntmps30
  go_wp2_with fail
  refine CN.out.mono ?_
  rintro e w3 ⟨v, rfl, hown, hb⟩
  have RS : Hid (SO w.heap.size w3 v (varsL [t]) ∧ Below w.heap.size w w3) := Lib.hid (by rw [HM.out]; exact ⟨hown.mono S2.out, B2.out.trans (hb.mono S2.out)⟩)
  clear hown hb
  go_wp2_with fail
  go_ret
  exact ⟨v, rfl, RS.out.1, RS.out.2⟩
theorem inS {M g o c : Nat} {a1 a3 a4 b1 b3 b4 : Int} {a2 b2 : ByteArray} {a5 b5 : Option Addr} {a6 a7 b6 b7 : Nat} {w w' : World} (hF : ∀ w', Below M w w' → w'.cell? ⟨g, 0, none⟩ = some (.int .i64 a1) ∧ w'.cell? ⟨g, 1, none⟩ = some (.string a2) ∧ w'.cell? ⟨g, 2, none⟩ = some (.int .i64 a3) ∧ w'.cell? ⟨g, 3, none⟩ = some (.int .i64 a4) ∧ w'.cell? ⟨g, 4, none⟩ = some (.slice a5 a6 a7) ∧ w'.cell? ⟨g, 5, none⟩ = some (.int .i64 b1) ∧ w'.cell? ⟨g, 6, none⟩ = some (.string b2) ∧ w'.cell? ⟨g, 7, none⟩ = some (.int .i64 b3) ∧ w'.cell? ⟨g, 8, none⟩ = some (.int .i64 b4) ∧ w'.cell? ⟨g, 9, none⟩ = some (.slice b5 b6 b7)) (hb : Below M w w') (hs : M + 1 ≤ w'.heap.size) (hz : w'.heap[M]? = some (.cells #[.int .i64 0, .string ⟨#[]⟩, .int .i64 0, .int .i64 o, .slice (some ⟨g, 0, none⟩) 2 c] 57 (0, 0))) : Below M w w' ∧ M + 1 ≤ w'.heap.size ∧ w'.heap[M]? = some (.cells #[.int .i64 0, .string ⟨#[]⟩, .int .i64 0, .int .i64 o, .slice (some ⟨g, 0, none⟩) 2 c] 57 (0, 0)) ∧ w'.cell? ⟨M, 4, none⟩ = some (.slice (some ⟨g, 0, none⟩) 2 c) ∧ w'.cell? ⟨g, 0, none⟩ = some (.int .i64 a1) ∧ w'.cell? ⟨g, 1, none⟩ = some (.string a2) ∧ w'.cell? ⟨g, 2, none⟩ = some (.int .i64 a3) ∧ w'.cell? ⟨g, 3, none⟩ = some (.int .i64 a4) ∧ w'.cell? ⟨g, 4, none⟩ = some (.slice a5 a6 a7) ∧ w'.cell? ⟨g, 5, none⟩ = some (.int .i64 b1) ∧ w'.cell? ⟨g, 6, none⟩ = some (.string b2) ∧ w'.cell? ⟨g, 7, none⟩ = some (.int .i64 b3) ∧ w'.cell? ⟨g, 8, none⟩ = some (.int .i64 b4) ∧ w'.cell? ⟨g, 9, none⟩ = some (.slice b5 b6 b7) :=
  ⟨hb, hs, hz, cellAt (i := 4) hz rfl, hF w' hb⟩
theorem inC {M g o c : Nat} {a1 a3 a4 b1 b3 b4 : Int} {a2 b2 : ByteArray} {a5 b5 : Option Addr} {a6 a7 b6 b7 : Nat} {w w' w'' : World} (hF : ∀ w', Below M w w' → w'.cell? ⟨g, 0, none⟩ = some (.int .i64 a1) ∧ w'.cell? ⟨g, 1, none⟩ = some (.string a2) ∧ w'.cell? ⟨g, 2, none⟩ = some (.int .i64 a3) ∧ w'.cell? ⟨g, 3, none⟩ = some (.int .i64 a4) ∧ w'.cell? ⟨g, 4, none⟩ = some (.slice a5 a6 a7) ∧ w'.cell? ⟨g, 5, none⟩ = some (.int .i64 b1) ∧ w'.cell? ⟨g, 6, none⟩ = some (.string b2) ∧ w'.cell? ⟨g, 7, none⟩ = some (.int .i64 b3) ∧ w'.cell? ⟨g, 8, none⟩ = some (.int .i64 b4) ∧ w'.cell? ⟨g, 9, none⟩ = some (.slice b5 b6 b7)) (h : Below M w w' ∧ M + 1 ≤ w'.heap.size ∧ w'.heap[M]? = some (.cells #[.int .i64 0, .string ⟨#[]⟩, .int .i64 0, .int .i64 o, .slice (some ⟨g, 0, none⟩) 2 c] 57 (0, 0)) ∧ w'.cell? ⟨M, 4, none⟩ = some (.slice (some ⟨g, 0, none⟩) 2 c) ∧ w'.cell? ⟨g, 0, none⟩ = some (.int .i64 a1) ∧ w'.cell? ⟨g, 1, none⟩ = some (.string a2) ∧ w'.cell? ⟨g, 2, none⟩ = some (.int .i64 a3) ∧ w'.cell? ⟨g, 3, none⟩ = some (.int .i64 a4) ∧ w'.cell? ⟨g, 4, none⟩ = some (.slice a5 a6 a7) ∧ w'.cell? ⟨g, 5, none⟩ = some (.int .i64 b1) ∧ w'.cell? ⟨g, 6, none⟩ = some (.string b2) ∧ w'.cell? ⟨g, 7, none⟩ = some (.int .i64 b3) ∧ w'.cell? ⟨g, 8, none⟩ = some (.int .i64 b4) ∧ w'.cell? ⟨g, 9, none⟩ = some (.slice b5 b6 b7)) (hb : Below w'.heap.size w' w'') : Below M w w'' ∧ M + 1 ≤ w''.heap.size ∧ w''.heap[M]? = some (.cells #[.int .i64 0, .string ⟨#[]⟩, .int .i64 0, .int .i64 o, .slice (some ⟨g, 0, none⟩) 2 c] 57 (0, 0)) ∧ w''.cell? ⟨M, 4, none⟩ = some (.slice (some ⟨g, 0, none⟩) 2 c) ∧ w''.cell? ⟨g, 0, none⟩ = some (.int .i64 a1) ∧ w''.cell? ⟨g, 1, none⟩ = some (.string a2) ∧ w''.cell? ⟨g, 2, none⟩ = some (.int .i64 a3) ∧ w''.cell? ⟨g, 3, none⟩ = some (.int .i64 a4) ∧ w''.cell? ⟨g, 4, none⟩ = some (.slice a5 a6 a7) ∧ w''.cell? ⟨g, 5, none⟩ = some (.int .i64 b1) ∧ w''.cell? ⟨g, 6, none⟩ = some (.string b2) ∧ w''.cell? ⟨g, 7, none⟩ = some (.int .i64 b3) ∧ w''.cell? ⟨g, 8, none⟩ = some (.int .i64 b4) ∧ w''.cell? ⟨g, 9, none⟩ = some (.slice b5 b6 b7) :=
  inS hF (h.1.trans (hb.mono (by have := h.2.1; omega))) (Nat.le_trans h.2.1 hb.size) ((hb.block M (by have := h.2.1; omega)).trans h.2.2.1)
theorem inG {M g o c : Nat} {a1 a3 a4 b1 b3 b4 : Int} {a2 b2 : ByteArray} {a5 b5 : Option Addr} {a6 a7 b6 b7 : Nat} {w w' w'' : World} {q : Option Nat} (hF : ∀ w', Below M w w' → w'.cell? ⟨g, 0, none⟩ = some (.int .i64 a1) ∧ w'.cell? ⟨g, 1, none⟩ = some (.string a2) ∧ w'.cell? ⟨g, 2, none⟩ = some (.int .i64 a3) ∧ w'.cell? ⟨g, 3, none⟩ = some (.int .i64 a4) ∧ w'.cell? ⟨g, 4, none⟩ = some (.slice a5 a6 a7) ∧ w'.cell? ⟨g, 5, none⟩ = some (.int .i64 b1) ∧ w'.cell? ⟨g, 6, none⟩ = some (.string b2) ∧ w'.cell? ⟨g, 7, none⟩ = some (.int .i64 b3) ∧ w'.cell? ⟨g, 8, none⟩ = some (.int .i64 b4) ∧ w'.cell? ⟨g, 9, none⟩ = some (.slice b5 b6 b7)) (h : Below M w w' ∧ M + 1 ≤ w'.heap.size ∧ w'.heap[M]? = some (.cells #[.int .i64 0, .string ⟨#[]⟩, .int .i64 0, .int .i64 o, .slice (some ⟨g, 0, none⟩) 2 c] 57 (0, 0)) ∧ w'.cell? ⟨M, 4, none⟩ = some (.slice (some ⟨g, 0, none⟩) 2 c) ∧ w'.cell? ⟨g, 0, none⟩ = some (.int .i64 a1) ∧ w'.cell? ⟨g, 1, none⟩ = some (.string a2) ∧ w'.cell? ⟨g, 2, none⟩ = some (.int .i64 a3) ∧ w'.cell? ⟨g, 3, none⟩ = some (.int .i64 a4) ∧ w'.cell? ⟨g, 4, none⟩ = some (.slice a5 a6 a7) ∧ w'.cell? ⟨g, 5, none⟩ = some (.int .i64 b1) ∧ w'.cell? ⟨g, 6, none⟩ = some (.string b2) ∧ w'.cell? ⟨g, 7, none⟩ = some (.int .i64 b3) ∧ w'.cell? ⟨g, 8, none⟩ = some (.int .i64 b4) ∧ w'.cell? ⟨g, 9, none⟩ = some (.slice b5 b6 b7)) (hg : w'.grownBy w'' q) (hq : ∀ b, q = some b → M < b) : Below M w w'' ∧ M + 1 ≤ w''.heap.size ∧ w''.heap[M]? = some (.cells #[.int .i64 0, .string ⟨#[]⟩, .int .i64 0, .int .i64 o, .slice (some ⟨g, 0, none⟩) 2 c] 57 (0, 0)) ∧ w''.cell? ⟨M, 4, none⟩ = some (.slice (some ⟨g, 0, none⟩) 2 c) ∧ w''.cell? ⟨g, 0, none⟩ = some (.int .i64 a1) ∧ w''.cell? ⟨g, 1, none⟩ = some (.string a2) ∧ w''.cell? ⟨g, 2, none⟩ = some (.int .i64 a3) ∧ w''.cell? ⟨g, 3, none⟩ = some (.int .i64 a4) ∧ w''.cell? ⟨g, 4, none⟩ = some (.slice a5 a6 a7) ∧ w''.cell? ⟨g, 5, none⟩ = some (.int .i64 b1) ∧ w''.cell? ⟨g, 6, none⟩ = some (.string b2) ∧ w''.cell? ⟨g, 7, none⟩ = some (.int .i64 b3) ∧ w''.cell? ⟨g, 8, none⟩ = some (.int .i64 b4) ∧ w''.cell? ⟨g, 9, none⟩ = some (.slice b5 b6 b7) :=
  inS hF (h.1.grown hg (by have := h.2.1; omega) (fun b hb => by have := hq b hb; omega)) (Nat.le_trans h.2.1 hg.size) ((hg.block M (by have := h.2.1; omega) (fun e => by have := hq M e.symm; omega)).trans h.2.2.1)
attribute [local go_sem ↓] app_rule
set_option maxRecDepth 100000 in
set_option maxHeartbeats 2000000 in
theorem in_two (o : Nat) (xa xb : X) (iha : InAt xa) (ihb : InAt xb) : InAt (.op o xa xb) := by
  intro N k1 k2 k3 k4 k5 k6 k7 w hx hN hn
  obtain ⟨g, c, va, vb, hv, ho, hg, fa, fb, ha, hb⟩ := hx
  simp only [XV.mk.injEq] at hv
  obtain ⟨rfl, rfl, rfl, rfl, rfl, rfl, h7⟩ := hv
  obtain rfl : c = k7 := by first | exact h7 | exact h7.symm
  obtain ⟨a1, a2, a3, a4, a5, a6, a7⟩ := va
  obtain ⟨b1, b2, b3, b4, b5, b6, b7⟩ := vb
  simp only [X.nodes] at hn
  obtain ⟨M, hM⟩ : ∃ M, w.heap.size = M := ⟨_, rfl⟩
  have HM := Lib.hid hM
  have hNM : N ≤ M := by omega
  have CA : Hid (∀ v, Below M w v → M + 1 ≤ v.heap.size → Calls Tryd.prog 30 #[.agg #[.int .i64 a1, .string a2, .int .i64 a3, .int .i64 a4, .slice a5 a6 a7]] v (SsL (M + 1) v (xVars xa))) := Lib.hid (fun v h hv => (iha N _ _ _ _ _ _ _ v (ha.on (h.mono hNM)) (by have := h.size; omega) (by omega)).mono fun e w' h9 => h9.low hv)
  have CB : Hid (∀ v, Below M w v → M + 1 ≤ v.heap.size → Calls Tryd.prog 30 #[.agg #[.int .i64 b1, .string b2, .int .i64 b3, .int .i64 b4, .slice b5 b6 b7]] v (SsL (M + 1) v (xVars xb))) := Lib.hid (fun v h hv => (ihb N _ _ _ _ _ _ _ v (hb.on (h.mono hNM)) (by have := h.size; omega) (by omega)).mono fun e w' h9 => h9.low hv)
  have FF : Hid (∀ w', Below M w w' → w'.cell? ⟨g, 0, none⟩ = some (.int .i64 a1) ∧ w'.cell? ⟨g, 1, none⟩ = some (.string a2) ∧ w'.cell? ⟨g, 2, none⟩ = some (.int .i64 a3) ∧ w'.cell? ⟨g, 3, none⟩ = some (.int .i64 a4) ∧ w'.cell? ⟨g, 4, none⟩ = some (.slice a5 a6 a7) ∧ w'.cell? ⟨g, 5, none⟩ = some (.int .i64 b1) ∧ w'.cell? ⟨g, 6, none⟩ = some (.string b2) ∧ w'.cell? ⟨g, 7, none⟩ = some (.int .i64 b3) ∧ w'.cell? ⟨g, 8, none⟩ = some (.int .i64 b4) ∧ w'.cell? ⟨g, 9, none⟩ = some (.slice b5 b6 b7)) := Lib.hid (fun v h =>
    have cl := fun {q : Nat} {u : Value} (h9 : w.cell? ⟨g, q, none⟩ = some u) => (h.cell (p := ⟨g, q, none⟩) (show g < M by omega)).trans h9
    ⟨cl (fa 0 _ rfl), cl (fa 1 _ rfl), cl (fa 2 _ rfl), cl (fa 3 _ rfl), cl (fa 4 _ rfl), cl (fb 0 _ rfl), cl (fb 1 _ rfl), cl (fb 2 _ rfl), cl (fb 3 _ rfl), cl (fb 4 _ rfl)⟩)
  have LL : Hid ((xVars xa).length + (xVars xb).length ≤ 100000) := Lib.hid (by have := xVars_len xa; have := xVars_len xb; omega)
  have B0 : Hid (Below M w (w.alloc (.cells #[.int .i64 0, .string ⟨#[]⟩, .int .i64 0, .int .i64 o, .slice (some ⟨g, 0, none⟩) 2 c] 57))) := Lib.hid (by rw [← hM]; exact (Below.refl _ _).alloc (Nat.le_refl _) _)
  have Z0 : Hid ((w.alloc (.cells #[.int .i64 0, .string ⟨#[]⟩, .int .i64 0, .int .i64 o, .slice (some ⟨g, 0, none⟩) 2 c] 57)).heap[M]? = some (.cells #[.int .i64 0, .string ⟨#[]⟩, .int .i64 0, .int .i64 o, .slice (some ⟨g, 0, none⟩) 2 c] 57 (0, 0))) := Lib.hid (by rw [← hM]; exact box5 w _ _ _ _ _ 57)
  have S0 : Hid ((w.alloc (.cells #[.int .i64 0, .string ⟨#[]⟩, .int .i64 0, .int .i64 o, .slice (some ⟨g, 0, none⟩) 2 c] 57)).heap.size = M + 1) := Lib.hid (by simp [hM])
  clear iha ihb ha hb fa fb hM hn
  show Calls _ _ _ _ (SsRet w (xVars xa ++ xVars xb))
  generalize xVars xa = ta at *
  generalize xVars xb = tb at *
  have MX := HM.out
  go_enter Tryd.func30, Tryd.ntmps30
  go_wp2_with fail
  generalize World.alloc w _ = W0 at *
  have q0 : Below M w W0.drew := B0.out.drew
  have s0 : M + 1 ≤ W0.drew.heap.size := by show M + 1 ≤ W0.heap.size; have := S0.out; omega
  have z0 : W0.drew.heap[M]? = some (.cells #[.int .i64 0, .string ⟨#[]⟩, .int .i64 0, .int .i64 o, .slice (some ⟨g, 0, none⟩) 2 c] 57 (0, 0)) := Z0.out
  go_region_held3 (fun w' => Below M w w' ∧ M + 1 ≤ w'.heap.size ∧ w'.heap[M]? = some (.cells #[.int .i64 0, .string ⟨#[]⟩, .int .i64 0, .int .i64 o, .slice (some ⟨g, 0, none⟩) 2 c] 57 (0, 0)) ∧ w'.cell? ⟨M, 4, none⟩ = some (.slice (some ⟨g, 0, none⟩) 2 c) ∧ w'.cell? ⟨g, 0, none⟩ = some (.int .i64 a1) ∧ w'.cell? ⟨g, 1, none⟩ = some (.string a2) ∧ w'.cell? ⟨g, 2, none⟩ = some (.int .i64 a3) ∧ w'.cell? ⟨g, 3, none⟩ = some (.int .i64 a4) ∧ w'.cell? ⟨g, 4, none⟩ = some (.slice a5 a6 a7) ∧ w'.cell? ⟨g, 5, none⟩ = some (.int .i64 b1) ∧ w'.cell? ⟨g, 6, none⟩ = some (.string b2) ∧ w'.cell? ⟨g, 7, none⟩ = some (.int .i64 b3) ∧ w'.cell? ⟨g, 8, none⟩ = some (.int .i64 b4) ∧ w'.cell? ⟨g, 9, none⟩ = some (.slice b5 b6 b7))
    (first | (with_reducible exact inS FF.out q0 s0 z0) | (with_reducible exact inG FF.out ‹Below M w _ ∧ _ ∧ _ ∧ _ ∧ _ ∧ _ ∧ _ ∧ _ ∧ _ ∧ _ ∧ _ ∧ _ ∧ _ ∧ _› ‹World.grownBy _ _ _› hq4) | (with_reducible exact inC FF.out ‹Below M w _ ∧ _ ∧ _ ∧ _ ∧ _ ∧ _ ∧ _ ∧ _ ∧ _ ∧ _ ∧ _ ∧ _ ∧ _ ∧ _› ‹Below _ _ _›))
    (first
      | (go_at_call 30; (with_reducible refine (CA.out _ (And.left ‹Below M w _ ∧ _ ∧ _ ∧ _ ∧ _ ∧ _ ∧ _ ∧ _ ∧ _ ∧ _ ∧ _ ∧ _ ∧ _ ∧ _›) (And.left (And.right ‹Below M w _ ∧ _ ∧ _ ∧ _ ∧ _ ∧ _ ∧ _ ∧ _ ∧ _ ∧ _ ∧ _ ∧ _ ∧ _ ∧ _›))).mono ?_); rintro e w4 ⟨v4, rfl, ho4, hb4⟩)
      | (go_at_call 30; (with_reducible refine (CB.out _ (And.left ‹Below M w _ ∧ _ ∧ _ ∧ _ ∧ _ ∧ _ ∧ _ ∧ _ ∧ _ ∧ _ ∧ _ ∧ _ ∧ _ ∧ _›) (And.left (And.right ‹Below M w _ ∧ _ ∧ _ ∧ _ ∧ _ ∧ _ ∧ _ ∧ _ ∧ _ ∧ _ ∧ _ ∧ _ ∧ _ ∧ _›))).mono ?_); rintro e w5 ⟨v5, rfl, ho5, hb5⟩; have hs5 : M + 1 ≤ w5.heap.size := (by have := hb4.size; have := hb5.size; omega); have hq4 : ∀ b, v4.ownBlock = some b → M < b := (fun b hb => (((ho4.below hb5).lt b hb).1)); obtain ⟨v7, w7, hrun, hown, hgr, hat⟩ := app_ss (ho4.below hb5) ho5 LL.out hs5))
  have RS : Hid (SO w.heap.size w7 v7 (ta ++ tb) ∧ Below w.heap.size w w7) := Lib.hid (by
    rw [HM.out]
    have b5 : Below M w w5 := (q0.trans (hb4.mono (by omega))).trans (hb5.mono (by have := hb4.size; omega))
    exact ⟨hown.mono (by omega), b5.grown hgr (by omega) (fun k hk => by have := hq4 k hk; omega)⟩)
  clear hown hgr hat hrun ho4 ho5 hb4 hb5
  go_wp2_with fail
  go_ret
  exact ⟨v7, rfl, RS.out.1, RS.out.2⟩
theorem in_all : ∀ x : X, InAt x
  | .leaf t => in_leaf t
  | .op o a b => in_two o a b (in_all a) (in_all b)
end Go.Proofs.YtaglbeokecbihaaDoor
