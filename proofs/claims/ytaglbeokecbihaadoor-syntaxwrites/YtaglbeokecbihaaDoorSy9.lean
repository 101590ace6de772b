/- The statement's expressions (E) as they came in; the expression that is made of one (E.Expr). -/
import Derived.Test.YtaglbeokecbihaaDoorSy8
namespace Go.Proofs.YtaglbeokecbihaaDoor
open Go.RowKit
set_option linter.unusedVariables false
set_option linter.unusedSimpArgs false

/-- v is the expression x; its kids lie in blocks from L on and before N. -/
def XI (L N : Nat) (w : World) : X → XV → Prop
  | .leaf t, v => v = ⟨t.kind, t.text, t.n, 0, none, 0, 0⟩ ∧ TmOK t
  | .op o a b, v => ∃ g c va vb, v = ⟨0, ⟨#[]⟩, 0, o, some ⟨g, 0, none⟩, 2, c⟩ ∧ o < 5 ∧ L ≤ g ∧ g < N ∧ (∀ j u, va.cells[j]? = some u → w.cell? ⟨g, j, none⟩ = some u) ∧ (∀ j u, vb.cells[j]? = some u → w.cell? ⟨g, 5 + j, none⟩ = some u) ∧ XI L N w a va ∧ XI L N w b vb
theorem XI.into {L N : Nat} {w : World} : ∀ {x : X} {v : XV}, XI L N w x v → XIn N w x v
  | .leaf _, _, h => h
  | .op _ _ _, _, ⟨g, c, va, vb, h1, h2, _, h3, h4, h5, h6, h7⟩ => ⟨g, c, va, vb, h1, h2, h3, h4, h5, XI.into h6, XI.into h7⟩
theorem XI.on {L N : Nat} {w w' : World} (hb : ∀ k, L ≤ k → k < N → w'.heap[k]? = w.heap[k]?) : ∀ {x : X} {v : XV}, XI L N w x v → XI L N w' x v
  | .leaf _, _, h => h
  | .op _ _ _, _, ⟨g, c, va, vb, h1, h2, hl, h3, h4, h5, h6, h7⟩ => ⟨g, c, va, vb, h1, h2, hl, h3, fun j u hu => (World.cell?_of_block (a := ⟨g, j, none⟩) (hb g hl h3)).trans (h4 j u hu), fun j u hu => (World.cell?_of_block (a := ⟨g, 5 + j, none⟩) (hb g hl h3)).trans (h5 j u hu), XI.on hb h6, XI.on hb h7⟩
theorem XI.mono {L L' N N' : Nat} {w : World} (hL : L' ≤ L) (hN : N ≤ N') : ∀ {x : X} {v : XV}, XI L N w x v → XI L' N' w x v
  | .leaf _, _, h => h
  | .op _ _ _, _, ⟨g, c, va, vb, h1, h2, hl, h3, h4, h5, h6, h7⟩ => ⟨g, c, va, vb, h1, h2, Nat.le_trans hL hl, Nat.lt_of_lt_of_le h3 hN, h4, h5, XI.mono hL hN h6, XI.mono hL hN h7⟩
/-- An expression as it came in: with no kid, with one, with two or more (the first two). -/
inductive ET where
  | none (K N G O : Int)
  | one (K N G O : Int) (k : ET)
  | two (K N G O : Int) (a b : ET)
structure EV where
  K : Int
  N : Int
  G : Int
  O : Int
  adr : Option Addr
  len : Nat
  cap : Nat
def EV.cells (v : EV) : List Value := [.int .i64 v.K, .int .i64 v.N, .int .i64 v.G, .int .i64 v.O, .slice v.adr v.len v.cap]
def Gok (G : Int) : Prop := -9223372036854775808 ≤ G ∧ G ≤ 9223372036854775807
/-- v is the expression e that came in; what it leads to lies before block B. -/
def EIn (B : Nat) (w : World) : ET → EV → Prop
  | .none K N G O, v => (v.K = K ∧ v.N = N ∧ v.G = G ∧ v.O = O ∧ v.len = 0) ∧ Gok G
  | .one K N G O k, v => (v.K = K ∧ v.N = N ∧ v.G = G ∧ v.O = O ∧ v.len = 1) ∧ Gok G ∧ ∃ b off va, v.adr = some ⟨b, off, none⟩ ∧ b < B ∧ (∀ j u, va.cells[j]? = some u → w.cell? ⟨b, off + j, none⟩ = some u) ∧ EIn B w k va
  | .two K N G O a b, v => (v.K = K ∧ v.N = N ∧ v.G = G ∧ v.O = O ∧ 2 ≤ v.len) ∧ Gok G ∧ ∃ bl off va vb, v.adr = some ⟨bl, off, none⟩ ∧ bl < B ∧ (∀ j u, va.cells[j]? = some u → w.cell? ⟨bl, off + j, none⟩ = some u) ∧ (∀ j u, vb.cells[j]? = some u → w.cell? ⟨bl, off + 5 + j, none⟩ = some u) ∧ EIn B w a va ∧ EIn B w b vb
theorem EIn.on {B : Nat} {w w' : World} (hb : Below B w w') : ∀ {e : ET} {v : EV}, EIn B w e v → EIn B w' e v
  | .none _ _ _ _, _, h => h
  | .one _ _ _ _ _, _, ⟨h1, h2, b, off, va, h3, h4, h5, h6⟩ => ⟨h1, h2, b, off, va, h3, h4, fun j u hu => (hb.cell (p := ⟨b, off + j, none⟩) h4).trans (h5 j u hu), EIn.on hb h6⟩
  | .two _ _ _ _ _ _, _, ⟨h1, h2, b, off, va, vb, h3, h4, h5, h6, h7, h8⟩ => ⟨h1, h2, b, off, va, vb, h3, h4, fun j u hu => (hb.cell (p := ⟨b, off + j, none⟩) h4).trans (h5 j u hu), fun j u hu => (hb.cell (p := ⟨b, off + 5 + j, none⟩) h4).trans (h6 j u hu), EIn.on hb h7, EIn.on hb h8⟩
/-- The expression that is made of it. -/
def xM : ET → X
  | .none K N G _ => .leaf (tmM (uN K % 3 : Nat) N G)
  | .one K N G _ _ => .leaf (tmM (uN K % 3 : Nat) N G)
  | .two _ _ _ O a b => .op (uN O % 5) (xM a) (xM b)
def ExRet (w : World) (x : X) (e : Ending) (w' : World) : Prop := ∃ k1 k2 k3 k4 k5 k6 k7, e = .returned (.agg #[.int .i64 k1, .string k2, .int .i64 k3, .int .i64 k4, .slice k5 k6 k7]) ∧ XI w.heap.size w'.heap.size w' x ⟨k1, k2, k3, k4, k5, k6, k7⟩ ∧ Below w.heap.size w w'
theorem rbox5 (w : World) (a : Obj) (y0 y1 y2 y3 y4 : Value) (T : TypeId) : ((w.alloc a).alloc (.cells #[y0, y1, y2, y3, y4] T)).heap[w.heap.size + 1]? = some (.cells #[y0, y1, y2, y3, y4] T (0, 0)) := by
  have := heap_alloc_new (w.alloc a) (.cells #[y0, y1, y2, y3, y4] T)
  rwa [show (w.alloc a).heap.size = w.heap.size + 1 by simp] at this
theorem heap_set5 {w : World} {g : Nat} {T : TypeId} {x0 x1 x2 x3 x4 y0 y1 y2 y3 y4 : Value} (h : w.heap[g]? = some (.cells #[x0, x1, x2, x3, x4] T (0, 0))) :
    (((((w.setCell ⟨g, 0, none⟩ y0).setCell ⟨g, 1, none⟩ y1).setCell ⟨g, 2, none⟩ y2).setCell ⟨g, 3, none⟩ y3).setCell ⟨g, 4, none⟩ y4).heap[g]? = some (.cells #[y0, y1, y2, y3, y4] T (0, 0)) := by
  simp [World.setCell, Array.getElem?_modify, h]
theorem below_set5 {B : Nat} {w w' : World} {g : Nat} {y0 y1 y2 y3 y4 : Value} (h : Below B w w') (hg : B ≤ g) :
    Below B w (((((w'.setCell ⟨g, 0, none⟩ y0).setCell ⟨g, 1, none⟩ y1).setCell ⟨g, 2, none⟩ y2).setCell ⟨g, 3, none⟩ y3).setCell ⟨g, 4, none⟩ y4) :=
  ((((h.setCell (p := ⟨g, 0, none⟩) hg _).setCell (p := ⟨g, 1, none⟩) hg _).setCell (p := ⟨g, 2, none⟩) hg _).setCell (p := ⟨g, 3, none⟩) hg _).setCell (p := ⟨g, 4, none⟩) hg _
theorem other_set5 (w : World) {g k : Nat} (y0 y1 y2 y3 y4 : Value) (hk : k ≠ g) : (((((w.setCell ⟨g, 0, none⟩ y0).setCell ⟨g, 1, none⟩ y1).setCell ⟨g, 2, none⟩ y2).setCell ⟨g, 3, none⟩ y3).setCell ⟨g, 4, none⟩ y4).heap[k]? = w.heap[k]? := by
  rw [Below.heap_setCell _ _ _ _ (fun e => hk e), Below.heap_setCell _ _ _ _ (fun e => hk e), Below.heap_setCell _ _ _ _ (fun e => hk e), Below.heap_setCell _ _ _ _ (fun e => hk e), Below.heap_setCell _ _ _ _ (fun e => hk e)]
theorem size_set5 (w : World) (g : Nat) (y0 y1 y2 y3 y4 : Value) : (((((w.setCell ⟨g, 0, none⟩ y0).setCell ⟨g, 1, none⟩ y1).setCell ⟨g, 2, none⟩ y2).setCell ⟨g, 3, none⟩ y3).setCell ⟨g, 4, none⟩ y4).heap.size = w.heap.size := by simp [World.setCell]
set_option maxRecDepth 100000 in
set_option maxHeartbeats 1000000 in
/-- E.Expr where there are not two kids. -/
theorem exprOf_leaf (K N G O : Int) (hG : Gok G) (adr : Option Addr) (len cap : Nat) (hl : len < 2) (w : World) : Calls Tryd.prog 20 #[.agg #[.int .i64 K, .int .i64 N, .int .i64 G, .int .i64 O, .slice adr len cap]] w (ExRet w (.leaf (tmM (uN K % 3 : Nat) N G))) := by
  have hr := urem K 3 (by omega) (by omega)
  have hj : uN K % 3 < 3 := Nat.mod_lt _ (by omega)
  have hok := tmM_ok (uN K % 3 : Nat) N G hG.1 hG.2
  have CT : Hid (∀ W, Calls Tryd.prog 11 #[.agg #[.int .i64 (uN K % 3 : Nat), .int .i64 N, .int .i64 G]] W (TmRet W (tmM (uN K % 3 : Nat) N G))) := Lib.hid (fun W => term_calls _ N G W)
  have HOK := Lib.hid hok
  generalize tmM (uN K % 3 : Nat) N G = t at *
  generalize uN K % 3 = j at *
  have n3 : wrap64 ((IntKind.u64.wrap K).tmod 3) = (j : Int) := hr
  have tl : decide ((len : Int) < 2) = true := decide_eq_true (by omega)
  have tl2 : decide (len < 2) = true := decide_eq_true hl
  clear hr hok hG
  obtain ⟨M, hM⟩ : ∃ M, w.heap.size = M := ⟨_, rfl⟩
  have HM := Lib.hid hM
  have Z0 := Lib.hid (rbox5 w (.cells #[.int .i64 K, .int .i64 N, .int .i64 G, .int .i64 O, .slice adr len cap] 38) (.int .i64 0) (.string ⟨#[]⟩) (.int .i64 0) (.int .i64 0) (.slice none 0 0) 57)
  have B3 : Hid (Below M w (((w.alloc (.cells #[.int .i64 K, .int .i64 N, .int .i64 G, .int .i64 O, .slice adr len cap] 38)).alloc (.cells #[.int .i64 0, .string ⟨#[]⟩, .int .i64 0, .int .i64 0, .slice none 0 0] 57)).alloc (.cells #[.int .i64 j, .int .i64 N, .int .i64 G] 32))) := Lib.hid (by rw [← hM]; exact below3 w _ _ _)
  have Z3 : Hid ((((w.alloc (.cells #[.int .i64 K, .int .i64 N, .int .i64 G, .int .i64 O, .slice adr len cap] 38)).alloc (.cells #[.int .i64 0, .string ⟨#[]⟩, .int .i64 0, .int .i64 0, .slice none 0 0] 57)).alloc (.cells #[.int .i64 j, .int .i64 N, .int .i64 G] 32)).heap[M + 1]? = some (.cells #[.int .i64 0, .string ⟨#[]⟩, .int .i64 0, .int .i64 0, .slice none 0 0] 57 (0, 0))) := Lib.hid (by
    rw [← hM]; exact (((Below.refl _ _).alloc (Nat.le_refl _) _).block _ (by simp)).trans Z0.out)
  have S3 : Hid ((((w.alloc (.cells #[.int .i64 K, .int .i64 N, .int .i64 G, .int .i64 O, .slice adr len cap] 38)).alloc (.cells #[.int .i64 0, .string ⟨#[]⟩, .int .i64 0, .int .i64 0, .slice none 0 0] 57)).alloc (.cells #[.int .i64 j, .int .i64 N, .int .i64 G] 32)).heap.size = M + 3) := Lib.hid (by simp [hM])
  clear hM Z0
  have MX := HM.out
  go_enter Tryd.func20, Tryd.ntmps20
  go_wp2_with fail
  refine (CT.out _).mono ?_
  generalize World.alloc (World.alloc (World.alloc w _) _) _ = W0 at *
  rintro e w1 ⟨rfl, hb1⟩
  have B1 : Below M w w1 := B3.out.trans (hb1.mono (by rw [S3.out]; omega))
  have z1 := (hb1.block (M + 1) (by rw [S3.out]; omega)).trans Z3.out
  obtain ⟨c0, c1, c2, c3, c4⟩ := cells5 z1
  have R1 := Lib.hid (below_set5 (y0 := .int .i64 t.kind) (y1 := .string t.text) (y2 := .int .i64 t.n) (y3 := .int .i64 0) (y4 := .slice none 0 0) B1 (show M ≤ M + 1 by omega))
  have E1 := Lib.hid (heap_set5 (y0 := .int .i64 t.kind) (y1 := .string t.text) (y2 := .int .i64 t.n) (y3 := .int .i64 0) (y4 := .slice none 0 0) z1)
  have FR : ∀ i, w1.frozen? ⟨M + 1, i, none⟩ = false := fun i => by simp [World.frozen?, z1]
  clear z1 hb1 B1
  go_wp2_with fail
  obtain ⟨d0, d1, d2, d3, d4⟩ := cells5 E1.out
  refine bodyPost_ret (v := .agg #[.int .i64 t.kind, .string t.text, .int .i64 t.n, .int .i64 0, .slice none 0 0]) ?_ rfl ⟨t.kind, t.text, t.n, 0, none, 0, 0, rfl, ⟨rfl, HOK.out⟩, by rw [HM.out]; exact R1.out⟩
  simp [results, Tryd.results20, go_sem, d0, d1, d2, d3, d4]
end Go.Proofs.YtaglbeokecbihaaDoor
