/- Parts as they are written. Written by mksy8.py. -/
import Derived.Test.YtaglbeokecbihaaDoorSy7
namespace Go.Proofs.YtaglbeokecbihaaDoor
open Go.RowKit
set_option linter.unusedVariables false
set_option linter.unusedSimpArgs false

theorem box16 (w : World) (cs : Array Value) (T : TypeId) : (w.alloc (.cells cs T)).heap[w.heap.size]? = some (.cells cs T (0, 0)) := heap_alloc_new _ _
theorem cellAt {w : World} {g i : Nat} {cs : Array Value} {v : Value} {T : TypeId} (h : w.heap[g]? = some (.cells cs T (0, 0))) (hv : cs[i]? = some v) : w.cell? ⟨g, i, none⟩ = some v := by
  simp [World.cell?, h, hv]
theorem atom_size {agg : Nat} {pred : ByteArray} {l : List Tm} (hl : ∀ t ∈ l, TmOK t) (hg : agg < 5) (hp : pred.size ≤ 100) (hn : l.length ≤ 1000) : (atomT agg pred l).size ≤ 51000 := by
  have h := outA_len hl hg l.length (Nat.le_refl _)
  unfold atomT atomB
  rw [size_lit]
  simp only [List.length_append, List.length_cons, List.length_nil, bs_len]
  omega
noncomputable def cmpT (op : Nat) (a b : Tm) : ByteArray := termT a ++ ⟨#[32]⟩ ++ colS op ++ ⟨#[32]⟩ ++ termT b
noncomputable def letT (name : ByteArray) (x : X) : ByteArray := name ++ ⟨#[32, 58, 61, 32]⟩ ++ exprT x
theorem colS_size : ∀ i, i < 6 → (colS i).size ≤ 2 := by decide
theorem held7 {E M : Nat} {o : Int} {a1 a3 b1 b3 : Int} {a2 b2 : ByteArray} {W w' w'' : World} (hQ : ∀ v, Below E W v → v.cell? ⟨M, 3, none⟩ = some (.int .i64 o) ∧ v.cell? ⟨M, 4, none⟩ = some (.int .i64 a1) ∧ v.cell? ⟨M, 5, none⟩ = some (.string a2) ∧ v.cell? ⟨M, 6, none⟩ = some (.int .i64 a3) ∧ v.cell? ⟨M, 7, none⟩ = some (.int .i64 b1) ∧ v.cell? ⟨M, 8, none⟩ = some (.string b2) ∧ v.cell? ⟨M, 9, none⟩ = some (.int .i64 b3))
    (h : w'.cell? ⟨M, 3, none⟩ = some (.int .i64 o) ∧ w'.cell? ⟨M, 4, none⟩ = some (.int .i64 a1) ∧ w'.cell? ⟨M, 5, none⟩ = some (.string a2) ∧ w'.cell? ⟨M, 6, none⟩ = some (.int .i64 a3) ∧ w'.cell? ⟨M, 7, none⟩ = some (.int .i64 b1) ∧ w'.cell? ⟨M, 8, none⟩ = some (.string b2) ∧ w'.cell? ⟨M, 9, none⟩ = some (.int .i64 b3) ∧ Below E W w' ∧ E ≤ w'.heap.size) (hb : Below w'.heap.size w' w'') :
    w''.cell? ⟨M, 3, none⟩ = some (.int .i64 o) ∧ w''.cell? ⟨M, 4, none⟩ = some (.int .i64 a1) ∧ w''.cell? ⟨M, 5, none⟩ = some (.string a2) ∧ w''.cell? ⟨M, 6, none⟩ = some (.int .i64 a3) ∧ w''.cell? ⟨M, 7, none⟩ = some (.int .i64 b1) ∧ w''.cell? ⟨M, 8, none⟩ = some (.string b2) ∧ w''.cell? ⟨M, 9, none⟩ = some (.int .i64 b3) ∧ Below E W w'' ∧ E ≤ w''.heap.size := by
  obtain ⟨_, _, _, _, _, _, _, h1, h2⟩ := h
  have h3 : Below E W w'' := h1.trans (hb.mono h2)
  obtain ⟨c3, c4, c5, c6, c7, c8, c9⟩ := hQ w'' h3
  exact ⟨c3, c4, c5, c6, c7, c8, c9, h3, Nat.le_trans h2 hb.size⟩
theorem held6 {E M : Nat} {nm k2 : ByteArray} {k1 k3 k4 : Int} {k5 : Option Addr} {k6 k7 : Nat} {W w' w'' : World} (hQ : ∀ v, Below E W v → v.cell? ⟨M, 10, none⟩ = some (.string nm) ∧ v.cell? ⟨M, 11, none⟩ = some (.int .i64 k1) ∧ v.cell? ⟨M, 12, none⟩ = some (.string k2) ∧ v.cell? ⟨M, 13, none⟩ = some (.int .i64 k3) ∧ v.cell? ⟨M, 14, none⟩ = some (.int .i64 k4) ∧ v.cell? ⟨M, 15, none⟩ = some (.slice k5 k6 k7))
    (h : w'.cell? ⟨M, 10, none⟩ = some (.string nm) ∧ w'.cell? ⟨M, 11, none⟩ = some (.int .i64 k1) ∧ w'.cell? ⟨M, 12, none⟩ = some (.string k2) ∧ w'.cell? ⟨M, 13, none⟩ = some (.int .i64 k3) ∧ w'.cell? ⟨M, 14, none⟩ = some (.int .i64 k4) ∧ w'.cell? ⟨M, 15, none⟩ = some (.slice k5 k6 k7) ∧ Below E W w' ∧ E ≤ w'.heap.size) (hb : Below w'.heap.size w' w'') :
    w''.cell? ⟨M, 10, none⟩ = some (.string nm) ∧ w''.cell? ⟨M, 11, none⟩ = some (.int .i64 k1) ∧ w''.cell? ⟨M, 12, none⟩ = some (.string k2) ∧ w''.cell? ⟨M, 13, none⟩ = some (.int .i64 k3) ∧ w''.cell? ⟨M, 14, none⟩ = some (.int .i64 k4) ∧ w''.cell? ⟨M, 15, none⟩ = some (.slice k5 k6 k7) ∧ Below E W w'' ∧ E ≤ w''.heap.size := by
  obtain ⟨_, _, _, _, _, _, h1, h2⟩ := h
  have h3 : Below E W w'' := h1.trans (hb.mono h2)
  obtain ⟨c3, c4, c5, c6, c7, c8⟩ := hQ w'' h3
  exact ⟨c3, c4, c5, c6, c7, c8, h3, Nat.le_trans h2 hb.size⟩
theorem held6b {a b c d e f g h : Prop} (H : a ∧ b ∧ c ∧ d ∧ e ∧ f ∧ g ∧ h) : g := H.2.2.2.2.2.2.1
theorem expr_all : ∀ x : X, ExprAt x
  | .leaf t => expr_leaf t
  | .op o a b => expr_op o a b (expr_all a) (expr_all b)
theorem held7b {a b c d e f g h i : Prop} (H : a ∧ b ∧ c ∧ d ∧ e ∧ f ∧ g ∧ h ∧ i) : h := H.2.2.2.2.2.2.2.1
theorem heldN {E : Nat} {Q : World → Prop} {W w' w'' : World} (hQ : ∀ v, Below E w' v → Q v) (h : Below E W w' ∧ E ≤ w'.heap.size) (hb : Below w'.heap.size w' w'') : Q w'' ∧ Below E W w'' ∧ E ≤ w''.heap.size :=
  ⟨hQ _ (hb.mono h.2), h.1.trans (hb.mono h.2), Nat.le_trans h.2 hb.size⟩
set_option maxRecDepth 100000 in
set_option maxHeartbeats 1000000 in
theorem partString_pos (pred : ByteArray) (a : Option Addr) (l : List Tm) (c : Nat) (N : Nat) (w : World) (hN : N ≤ w.heap.size) (hr : TmRow N w a l) (hs : STab w) (hp : pred.size ≤ 100) (hn : l.length ≤ 1000) : Calls Tryd.prog 18 #[.agg #[.int .i64 0, .string pred, .slice a l.length c, .int .i64 0, .int .i64 0, .string ⟨#[]⟩, .int .i64 0, .int .i64 0, .string ⟨#[]⟩, .int .i64 0, .string ⟨#[]⟩, .int .i64 0, .string ⟨#[]⟩, .int .i64 0, .int .i64 0, .slice none 0 0]] w (StrRet w (atomT 0 pred l)) := by
  have B1 := Lib.hid ((Below.refl w.heap.size w).alloc (Nat.le_refl _) (.cells #[.int .i64 0, .string pred, .slice a l.length c, .int .i64 0, .int .i64 0, .string ⟨#[]⟩, .int .i64 0, .int .i64 0, .string ⟨#[]⟩, .int .i64 0, .string ⟨#[]⟩, .int .i64 0, .string ⟨#[]⟩, .int .i64 0, .int .i64 0, .slice none 0 0] 59))
  have S1 : Hid (w.heap.size ≤ (w.alloc (.cells #[.int .i64 0, .string pred, .slice a l.length c, .int .i64 0, .int .i64 0, .string ⟨#[]⟩, .int .i64 0, .int .i64 0, .string ⟨#[]⟩, .int .i64 0, .string ⟨#[]⟩, .int .i64 0, .string ⟨#[]⟩, .int .i64 0, .int .i64 0, .slice none 0 0] 59)).heap.size) := Lib.hid (by simp)
  have ca := Lib.hid (atomString_calls pred a l c N (w.alloc (.cells #[.int .i64 0, .string pred, .slice a l.length c, .int .i64 0, .int .i64 0, .string ⟨#[]⟩, .int .i64 0, .int .i64 0, .string ⟨#[]⟩, .int .i64 0, .string ⟨#[]⟩, .int .i64 0, .string ⟨#[]⟩, .int .i64 0, .int .i64 0, .slice none 0 0] 59)) (Nat.le_trans hN S1.out) (hr.on (B1.out.mono hN)) (hs.below B1.out) hp hn)
  have hz := atom_size hr.1 (show 0 < 5 by omega) hp hn
  clear hr hs
  generalize atomT 0 pred l = r at *
  generalize l.length = n at *
  go_enter Tryd.func18, Tryd.ntmps18
  go_wp2_with fail
  refine ca.out.mono ?_
  generalize World.alloc w _ = W0 at *
  rintro e w1 ⟨rfl, hb1⟩
  have B2 : Hid (Below w.heap.size w w1) := Lib.hid (B1.out.trans (hb1.mono S1.out))
  clear hb1 ca
  go_wp2_with fail
  go_ret
  exact ⟨rfl, B2.out⟩
set_option maxRecDepth 100000 in
set_option maxHeartbeats 1000000 in
theorem partString_neg (pred : ByteArray) (a : Option Addr) (l : List Tm) (c : Nat) (N : Nat) (w : World) (hN : N ≤ w.heap.size) (hr : TmRow N w a l) (hs : STab w) (hp : pred.size ≤ 100) (hn : l.length ≤ 1000) : Calls Tryd.prog 18 #[.agg #[.int .i64 1, .string pred, .slice a l.length c, .int .i64 0, .int .i64 0, .string ⟨#[]⟩, .int .i64 0, .int .i64 0, .string ⟨#[]⟩, .int .i64 0, .string ⟨#[]⟩, .int .i64 0, .string ⟨#[]⟩, .int .i64 0, .int .i64 0, .slice none 0 0]] w (StrRet w (⟨#[110, 111, 116, 32]⟩ ++ atomT 0 pred l)) := by
  have B1 := Lib.hid ((Below.refl w.heap.size w).alloc (Nat.le_refl _) (.cells #[.int .i64 1, .string pred, .slice a l.length c, .int .i64 0, .int .i64 0, .string ⟨#[]⟩, .int .i64 0, .int .i64 0, .string ⟨#[]⟩, .int .i64 0, .string ⟨#[]⟩, .int .i64 0, .string ⟨#[]⟩, .int .i64 0, .int .i64 0, .slice none 0 0] 59))
  have S1 : Hid (w.heap.size ≤ (w.alloc (.cells #[.int .i64 1, .string pred, .slice a l.length c, .int .i64 0, .int .i64 0, .string ⟨#[]⟩, .int .i64 0, .int .i64 0, .string ⟨#[]⟩, .int .i64 0, .string ⟨#[]⟩, .int .i64 0, .string ⟨#[]⟩, .int .i64 0, .int .i64 0, .slice none 0 0] 59)).heap.size) := Lib.hid (by simp)
  have ca := Lib.hid (atomString_calls pred a l c N (w.alloc (.cells #[.int .i64 1, .string pred, .slice a l.length c, .int .i64 0, .int .i64 0, .string ⟨#[]⟩, .int .i64 0, .int .i64 0, .string ⟨#[]⟩, .int .i64 0, .string ⟨#[]⟩, .int .i64 0, .string ⟨#[]⟩, .int .i64 0, .int .i64 0, .slice none 0 0] 59)) (Nat.le_trans hN S1.out) (hr.on (B1.out.mono hN)) (hs.below B1.out) hp hn)
  have hz := atom_size hr.1 (show 0 < 5 by omega) hp hn
  clear hr hs
  generalize atomT 0 pred l = r at *
  generalize l.length = n at *
  go_enter Tryd.func18, Tryd.ntmps18
  go_wp2_with fail
  refine ca.out.mono ?_
  generalize World.alloc w _ = W0 at *
  rintro e w1 ⟨rfl, hb1⟩
  have B2 : Hid (Below w.heap.size w w1) := Lib.hid (B1.out.trans (hb1.mono S1.out))
  clear hb1 ca
  go_wp2_with fail
  go_ret
  exact ⟨rfl, B2.out⟩
set_option maxRecDepth 100000 in
set_option maxHeartbeats 600000 in
theorem partString_cmp (op : Nat) (ho : op < 6) (ta tb : Tm) (ha : TmOK ta) (hb : TmOK tb) (w : World) (hs : STab w) : Calls Tryd.prog 18 #[.agg #[.int .i64 2, .string ⟨#[]⟩, .slice none 0 0, .int .i64 op, .int .i64 ta.kind, .string ta.text, .int .i64 ta.n, .int .i64 tb.kind, .string tb.text, .int .i64 tb.n, .string ⟨#[]⟩, .int .i64 0, .string ⟨#[]⟩, .int .i64 0, .int .i64 0, .slice none 0 0]] w (StrRet w (cmpT op ta tb)) := by
  have FT : Hid (termT ta ++ ⟨#[32]⟩ ++ colS op ++ ⟨#[32]⟩ ++ termT tb = cmpT op ta tb) := Lib.hid rfl
  have hz1 := termT_size ha
  have hz2 := termT_size hb
  have hz3 := colS_size op ho
  have CA : Hid (∀ W, STab W → Calls Tryd.prog 12 #[.agg #[.int .i64 ta.kind, .string ta.text, .int .i64 ta.n]] W (StrRet W (termT ta))) := Lib.hid (fun W h => termString_calls ta ha W h)
  have CB : Hid (∀ W, STab W → Calls Tryd.prog 12 #[.agg #[.int .i64 tb.kind, .string tb.text, .int .i64 tb.n]] W (StrRet W (termT tb))) := Lib.hid (fun W h => termString_calls tb hb W h)
  generalize cmpT op ta tb = fT at *
  generalize termT ta = ra at *
  generalize termT tb = rb at *
  generalize ta.kind = a1 at *
  generalize ta.text = a2 at *
  generalize ta.n = a3 at *
  generalize tb.kind = b1 at *
  generalize tb.text = b2 at *
  generalize tb.n = b3 at *
  clear ha hb
  obtain ⟨M, hM⟩ : ∃ M, w.heap.size = M := ⟨_, rfl⟩
  have HM := Lib.hid hM
  have h6 : 6 ≤ M := by have := hs.sz; omega
  have B1 : Hid (Below M w (w.alloc (.cells #[.int .i64 2, .string ⟨#[]⟩, .slice none 0 0, .int .i64 op, .int .i64 a1, .string a2, .int .i64 a3, .int .i64 b1, .string b2, .int .i64 b3, .string ⟨#[]⟩, .int .i64 0, .string ⟨#[]⟩, .int .i64 0, .int .i64 0, .slice none 0 0] 59))) := Lib.hid ((Below.refl M w).alloc (by omega) _)
  have S1 : Hid ((w.alloc (.cells #[.int .i64 2, .string ⟨#[]⟩, .slice none 0 0, .int .i64 op, .int .i64 a1, .string a2, .int .i64 a3, .int .i64 b1, .string b2, .int .i64 b3, .string ⟨#[]⟩, .int .i64 0, .string ⟨#[]⟩, .int .i64 0, .int .i64 0, .slice none 0 0] 59)).heap.size = M + 1) := Lib.hid (by simp [hM])
  have Y1 : Hid ((w.alloc (.cells #[.int .i64 2, .string ⟨#[]⟩, .slice none 0 0, .int .i64 op, .int .i64 a1, .string a2, .int .i64 a3, .int .i64 b1, .string b2, .int .i64 b3, .string ⟨#[]⟩, .int .i64 0, .string ⟨#[]⟩, .int .i64 0, .int .i64 0, .slice none 0 0] 59)).heap[M]? = some (.cells #[.int .i64 2, .string ⟨#[]⟩, .slice none 0 0, .int .i64 op, .int .i64 a1, .string a2, .int .i64 a3, .int .i64 b1, .string b2, .int .i64 b3, .string ⟨#[]⟩, .int .i64 0, .string ⟨#[]⟩, .int .i64 0, .int .i64 0, .slice none 0 0] 59 (0, 0))) := Lib.hid (by rw [← hM]; exact box16 _ _ _)
  have T1 := Lib.hid (hs.on h6 B1.out)
  have QQ : Hid (∀ v, Below (M + 1) (w.alloc (.cells #[.int .i64 2, .string ⟨#[]⟩, .slice none 0 0, .int .i64 op, .int .i64 a1, .string a2, .int .i64 a3, .int .i64 b1, .string b2, .int .i64 b3, .string ⟨#[]⟩, .int .i64 0, .string ⟨#[]⟩, .int .i64 0, .int .i64 0, .slice none 0 0] 59)) v → v.cell? ⟨M, 3, none⟩ = some (.int .i64 op) ∧ v.cell? ⟨M, 4, none⟩ = some (.int .i64 a1) ∧ v.cell? ⟨M, 5, none⟩ = some (.string a2) ∧ v.cell? ⟨M, 6, none⟩ = some (.int .i64 a3) ∧ v.cell? ⟨M, 7, none⟩ = some (.int .i64 b1) ∧ v.cell? ⟨M, 8, none⟩ = some (.string b2) ∧ v.cell? ⟨M, 9, none⟩ = some (.int .i64 b3)) := Lib.hid (fun v h => by
    have z := (h.block M (by omega)).trans Y1.out
    exact ⟨cellAt z rfl, cellAt z rfl, cellAt z rfl, cellAt z rfl, cellAt z rfl, cellAt z rfl, cellAt z rfl⟩)
  have CS : Hid (∀ v, STab v → Calls Tryd.prog 43 #[.int .i64 op] v fun e w' => e = .returned (.string (colS op)) ∧ Below v.heap.size v w') := Lib.hid (fun v h => (colSign_calls op ho v h).mono fun e w' h9 => ⟨h9.1, by rw [← h9.2]; exact Below.refl _ _⟩)
  generalize colS op = sg at *
  clear hs hM
  have MX := HM.out
  go_enter Tryd.func18, Tryd.ntmps18
  go_wp2_with fail
  generalize World.alloc w _ = W0 at *
  have TT : Hid (∀ v, Below (M + 1) W0 v → STab v) := Lib.hid (fun v h => T1.out.on (by omega) h)
  have s0 : M + 1 ≤ W0.heap.size := by have := S1.out; omega
  have q0 : Below (M + 1) W0 W0 := Below.refl _ _
  obtain ⟨e3, e4, e5, e6, e7, e8, e9⟩ := QQ.out W0 q0
  have A1 : ∀ W, (Op.stringOp .add ra ⟨#[32]⟩).run Tryd.prog W = .ok (.string (ra ++ ⟨#[32]⟩)) W := fun W => run_string_add_sum W _ _ (by show ra.size + 1 ≤ _; omega)
  have A2 : ∀ W, (Op.stringOp .add (ra ++ ⟨#[32]⟩) sg).run Tryd.prog W = .ok (.string (ra ++ ⟨#[32]⟩ ++ sg)) W := fun W => run_string_add_sum W _ _ (by rw [ByteArray.size_append]; show ra.size + 1 + _ ≤ _; omega)
  have A3 : ∀ W, (Op.stringOp .add (ra ++ ⟨#[32]⟩ ++ sg) ⟨#[32]⟩).run Tryd.prog W = .ok (.string (ra ++ ⟨#[32]⟩ ++ sg ++ ⟨#[32]⟩)) W := fun W => run_string_add_sum W _ _ (by rw [ByteArray.size_append, ByteArray.size_append]; show ra.size + 1 + _ + 1 ≤ _; omega)
  have A4 : ∀ W, (Op.stringOp .add (ra ++ ⟨#[32]⟩ ++ sg ++ ⟨#[32]⟩) rb).run Tryd.prog W = .ok (.string fT) W := fun W => by rw [run_string_add_sum W _ _ (by rw [ByteArray.size_append, ByteArray.size_append, ByteArray.size_append]; show ra.size + 1 + _ + 1 + _ ≤ _; omega), FT.out]
  generalize ra ++ ⟨#[32]⟩ ++ sg ++ ⟨#[32]⟩ = r3 at *
  generalize ra ++ ⟨#[32]⟩ ++ sg = r2 at *
  generalize ra ++ ⟨#[32]⟩ = r1 at *
  go_region_held3 (fun w' => w'.cell? ⟨M, 3, none⟩ = some (.int .i64 op) ∧ w'.cell? ⟨M, 4, none⟩ = some (.int .i64 a1) ∧ w'.cell? ⟨M, 5, none⟩ = some (.string a2) ∧ w'.cell? ⟨M, 6, none⟩ = some (.int .i64 a3) ∧ w'.cell? ⟨M, 7, none⟩ = some (.int .i64 b1) ∧ w'.cell? ⟨M, 8, none⟩ = some (.string b2) ∧ w'.cell? ⟨M, 9, none⟩ = some (.int .i64 b3) ∧ Below (M + 1) W0 w' ∧ M + 1 ≤ w'.heap.size)
    (first | (exact ⟨e3, e4, e5, e6, e7, e8, e9, q0.drew, s0⟩) | (exact held7 QQ.out ‹_ ∧ _ ∧ _ ∧ _ ∧ _ ∧ _ ∧ _ ∧ Below (M + 1) W0 _ ∧ _› ‹Below _ _ _›))
    (first
      | (go_at_call 43; (with_reducible refine (CS.out _ (TT.out _ (held7b ‹_ ∧ _ ∧ _ ∧ _ ∧ _ ∧ _ ∧ _ ∧ Below (M + 1) W0 _ ∧ _›))).mono ?_); rintro e w4 ⟨rfl, hb4⟩)
      | (go_at_call 12; (with_reducible refine (CA.out _ (TT.out _ (held7b ‹_ ∧ _ ∧ _ ∧ _ ∧ _ ∧ _ ∧ _ ∧ Below (M + 1) W0 _ ∧ _›))).mono ?_); rintro e w5 ⟨rfl, hb5⟩)
      | (go_at_call 12; (with_reducible refine (CB.out _ (TT.out _ (held7b ‹_ ∧ _ ∧ _ ∧ _ ∧ _ ∧ _ ∧ _ ∧ Below (M + 1) W0 _ ∧ _›))).mono ?_); rintro e w6 ⟨rfl, hb6⟩))
  have q6 : Below M w w6 := B1.out.trans ((((q0.drew.trans (hb5.mono s0)).trans (hb4.mono (Nat.le_trans s0 hb5.size))).trans (hb6.mono (Nat.le_trans (Nat.le_trans s0 hb5.size) hb4.size))).mono (by omega))
  have Q6 := Lib.hid q6
  clear q6 e3 e4 e5 e6 e7 e8 e9 A1 A2 A3 A4
  go_wp2_with fail
  go_ret
  exact ⟨rfl, by rw [HM.out]; exact Q6.out⟩
set_option maxRecDepth 100000 in
set_option maxHeartbeats 600000 in
theorem partString_let (nm : ByteArray) (hnm : nm.size ≤ 100) {x : X} {N : Nat} {k1 : Int} {k2 : ByteArray} {k3 k4 : Int} {k5 : Option Addr} {k6 k7 : Nat} {w : World} (hx : XIn N w x ⟨k1, k2, k3, k4, k5, k6, k7⟩) (hN : N ≤ w.heap.size) (hs : STab w) (hl : (exprB x).length ≤ 100000) : Calls Tryd.prog 18 #[.agg #[.int .i64 3, .string ⟨#[]⟩, .slice none 0 0, .int .i64 0, .int .i64 0, .string ⟨#[]⟩, .int .i64 0, .int .i64 0, .string ⟨#[]⟩, .int .i64 0, .string nm, .int .i64 k1, .string k2, .int .i64 k3, .int .i64 k4, .slice k5 k6 k7]] w (StrRet w (letT nm x)) := by
  have FT : Hid (nm ++ ⟨#[32, 58, 61, 32]⟩ ++ exprT x = letT nm x) := Lib.hid rfl
  have hz1 : (exprT x).size ≤ 100000 := by rw [exprT_size]; exact hl
  obtain ⟨M, hM⟩ : ∃ M, w.heap.size = M := ⟨_, rfl⟩
  have HM := Lib.hid hM
  have h6 : 6 ≤ M := by have := hs.sz; omega
  have CX : Hid (∀ v, Below M w v → Calls Tryd.prog 21 #[.agg #[.int .i64 k1, .string k2, .int .i64 k3, .int .i64 k4, .slice k5 k6 k7]] v (StrRet v (exprT x))) := Lib.hid (fun v h => (exprString_calls (hx.on (h.mono (by omega))) (by have := h.size; omega) (hs.on h6 h) hl))
  have B1 : Hid (Below M w (w.alloc (.cells #[.int .i64 3, .string ⟨#[]⟩, .slice none 0 0, .int .i64 0, .int .i64 0, .string ⟨#[]⟩, .int .i64 0, .int .i64 0, .string ⟨#[]⟩, .int .i64 0, .string nm, .int .i64 k1, .string k2, .int .i64 k3, .int .i64 k4, .slice k5 k6 k7] 59))) := Lib.hid ((Below.refl M w).alloc (by omega) _)
  have S1 : Hid ((w.alloc (.cells #[.int .i64 3, .string ⟨#[]⟩, .slice none 0 0, .int .i64 0, .int .i64 0, .string ⟨#[]⟩, .int .i64 0, .int .i64 0, .string ⟨#[]⟩, .int .i64 0, .string nm, .int .i64 k1, .string k2, .int .i64 k3, .int .i64 k4, .slice k5 k6 k7] 59)).heap.size = M + 1) := Lib.hid (by simp [hM])
  have Y1 : Hid ((w.alloc (.cells #[.int .i64 3, .string ⟨#[]⟩, .slice none 0 0, .int .i64 0, .int .i64 0, .string ⟨#[]⟩, .int .i64 0, .int .i64 0, .string ⟨#[]⟩, .int .i64 0, .string nm, .int .i64 k1, .string k2, .int .i64 k3, .int .i64 k4, .slice k5 k6 k7] 59)).heap[M]? = some (.cells #[.int .i64 3, .string ⟨#[]⟩, .slice none 0 0, .int .i64 0, .int .i64 0, .string ⟨#[]⟩, .int .i64 0, .int .i64 0, .string ⟨#[]⟩, .int .i64 0, .string nm, .int .i64 k1, .string k2, .int .i64 k3, .int .i64 k4, .slice k5 k6 k7] 59 (0, 0))) := Lib.hid (by rw [← hM]; exact box16 _ _ _)
  have QQ : Hid (∀ v, Below (M + 1) (w.alloc (.cells #[.int .i64 3, .string ⟨#[]⟩, .slice none 0 0, .int .i64 0, .int .i64 0, .string ⟨#[]⟩, .int .i64 0, .int .i64 0, .string ⟨#[]⟩, .int .i64 0, .string nm, .int .i64 k1, .string k2, .int .i64 k3, .int .i64 k4, .slice k5 k6 k7] 59)) v → v.cell? ⟨M, 10, none⟩ = some (.string nm) ∧ v.cell? ⟨M, 11, none⟩ = some (.int .i64 k1) ∧ v.cell? ⟨M, 12, none⟩ = some (.string k2) ∧ v.cell? ⟨M, 13, none⟩ = some (.int .i64 k3) ∧ v.cell? ⟨M, 14, none⟩ = some (.int .i64 k4) ∧ v.cell? ⟨M, 15, none⟩ = some (.slice k5 k6 k7)) := Lib.hid (fun v h => by
    have z := (h.block M (by omega)).trans Y1.out
    exact ⟨cellAt z rfl, cellAt z rfl, cellAt z rfl, cellAt z rfl, cellAt z rfl, cellAt z rfl⟩)
  clear hs hM hx hl
  generalize letT nm x = fT at *
  generalize exprT x = rx at *
  have MX := HM.out
  go_enter Tryd.func18, Tryd.ntmps18
  go_wp2_with fail
  have CW : Hid (∀ v, Below (M + 1) (w.alloc (.cells #[.int .i64 3, .string ⟨#[]⟩, .slice none 0 0, .int .i64 0, .int .i64 0, .string ⟨#[]⟩, .int .i64 0, .int .i64 0, .string ⟨#[]⟩, .int .i64 0, .string nm, .int .i64 k1, .string k2, .int .i64 k3, .int .i64 k4, .slice k5 k6 k7] 59)) v → Calls Tryd.prog 21 #[.agg #[.int .i64 k1, .string k2, .int .i64 k3, .int .i64 k4, .slice k5 k6 k7]] v (StrRet v rx)) := Lib.hid (fun v h => CX.out v (B1.out.trans (h.mono (by omega))))
  generalize World.alloc w _ = W0 at *
  have s0 : M + 1 ≤ W0.heap.size := by have := S1.out; omega
  have q0 : Below (M + 1) W0 W0 := Below.refl _ _
  obtain ⟨e3, e4, e5, e6, e7, e8⟩ := QQ.out W0 q0
  have A1 : ∀ W, (Op.stringOp .add nm ⟨#[32, 58, 61, 32]⟩).run Tryd.prog W = .ok (.string (nm ++ ⟨#[32, 58, 61, 32]⟩)) W := fun W => run_string_add_sum W _ _ (by show nm.size + 4 ≤ _; omega)
  have A2 : ∀ W, (Op.stringOp .add (nm ++ ⟨#[32, 58, 61, 32]⟩) rx).run Tryd.prog W = .ok (.string fT) W := fun W => by rw [run_string_add_sum W _ _ (by rw [ByteArray.size_append]; show nm.size + 4 + _ ≤ _; omega), FT.out]
  generalize nm ++ ⟨#[32, 58, 61, 32]⟩ = r1 at *
  go_region_held3 (fun w' => w'.cell? ⟨M, 10, none⟩ = some (.string nm) ∧ w'.cell? ⟨M, 11, none⟩ = some (.int .i64 k1) ∧ w'.cell? ⟨M, 12, none⟩ = some (.string k2) ∧ w'.cell? ⟨M, 13, none⟩ = some (.int .i64 k3) ∧ w'.cell? ⟨M, 14, none⟩ = some (.int .i64 k4) ∧ w'.cell? ⟨M, 15, none⟩ = some (.slice k5 k6 k7) ∧ Below (M + 1) W0 w' ∧ M + 1 ≤ w'.heap.size)
    (first | (exact ⟨e3, e4, e5, e6, e7, e8, q0.drew, s0⟩) | (exact held6 QQ.out ‹_ ∧ _ ∧ _ ∧ _ ∧ _ ∧ _ ∧ Below (M + 1) W0 _ ∧ _› ‹Below _ _ _›))
    (first
      | (go_at_call 21; (with_reducible refine (CW.out _ (held6b ‹_ ∧ _ ∧ _ ∧ _ ∧ _ ∧ _ ∧ Below (M + 1) W0 _ ∧ _›)).mono ?_); rintro e w5 ⟨rfl, hb5⟩))
  have q6 : Below M w w5 := B1.out.trans ((q0.drew.trans (hb5.mono s0)).mono (by omega))
  have Q6 := Lib.hid q6
  clear q6 e3 e4 e5 e6 e7 e8 A1 A2
  go_wp2_with fail
  go_ret
  exact ⟨rfl, by rw [HM.out]; exact Q6.out⟩
set_option maxRecDepth 100000 in
set_option maxHeartbeats 1000000 in
theorem lawPart_pos (pred : ByteArray) (a : Option Addr) (l : List Tm) (c : Nat) (N : Nat) (w : World) (hN : N ≤ w.heap.size) (hr : TmRow N w a l) (hs : STab w) (hp : pred.size ≤ 100) (hn : l.length ≤ 1000) : Calls Tryd.prog 19 #[.agg #[.int .i64 0, .string pred, .slice a l.length c, .int .i64 0, .int .i64 0, .string ⟨#[]⟩, .int .i64 0, .int .i64 0, .string ⟨#[]⟩, .int .i64 0, .string ⟨#[]⟩, .int .i64 0, .string ⟨#[]⟩, .int .i64 0, .int .i64 0, .slice none 0 0]] w (StrRet w (atomT 0 pred l)) := by
  have B1 := Lib.hid ((Below.refl w.heap.size w).alloc (Nat.le_refl _) (.cells #[.int .i64 0, .string pred, .slice a l.length c, .int .i64 0, .int .i64 0, .string ⟨#[]⟩, .int .i64 0, .int .i64 0, .string ⟨#[]⟩, .int .i64 0, .string ⟨#[]⟩, .int .i64 0, .string ⟨#[]⟩, .int .i64 0, .int .i64 0, .slice none 0 0] 59))
  have S1 : Hid (w.heap.size ≤ (w.alloc (.cells #[.int .i64 0, .string pred, .slice a l.length c, .int .i64 0, .int .i64 0, .string ⟨#[]⟩, .int .i64 0, .int .i64 0, .string ⟨#[]⟩, .int .i64 0, .string ⟨#[]⟩, .int .i64 0, .string ⟨#[]⟩, .int .i64 0, .int .i64 0, .slice none 0 0] 59)).heap.size) := Lib.hid (by simp)
  have ca := Lib.hid (lawAtom_calls pred a l c N (w.alloc (.cells #[.int .i64 0, .string pred, .slice a l.length c, .int .i64 0, .int .i64 0, .string ⟨#[]⟩, .int .i64 0, .int .i64 0, .string ⟨#[]⟩, .int .i64 0, .string ⟨#[]⟩, .int .i64 0, .string ⟨#[]⟩, .int .i64 0, .int .i64 0, .slice none 0 0] 59)) (Nat.le_trans hN S1.out) (hr.on (B1.out.mono hN)) (hs.below B1.out) hp hn)
  have hz := atom_size hr.1 (show 0 < 5 by omega) hp hn
  clear hr hs
  generalize atomT 0 pred l = r at *
  generalize l.length = n at *
  go_enter Tryd.func19, Tryd.ntmps19
  go_wp2_with fail
  refine ca.out.mono ?_
  generalize World.alloc w _ = W0 at *
  rintro e w1 ⟨rfl, hb1⟩
  have B2 : Hid (Below w.heap.size w w1) := Lib.hid (B1.out.trans (hb1.mono S1.out))
  clear hb1 ca
  go_wp2_with fail
  go_ret
  exact ⟨rfl, B2.out⟩
set_option maxRecDepth 100000 in
set_option maxHeartbeats 1000000 in
theorem lawPart_neg (pred : ByteArray) (a : Option Addr) (l : List Tm) (c : Nat) (N : Nat) (w : World) (hN : N ≤ w.heap.size) (hr : TmRow N w a l) (hs : STab w) (hp : pred.size ≤ 100) (hn : l.length ≤ 1000) : Calls Tryd.prog 19 #[.agg #[.int .i64 1, .string pred, .slice a l.length c, .int .i64 0, .int .i64 0, .string ⟨#[]⟩, .int .i64 0, .int .i64 0, .string ⟨#[]⟩, .int .i64 0, .string ⟨#[]⟩, .int .i64 0, .string ⟨#[]⟩, .int .i64 0, .int .i64 0, .slice none 0 0]] w (StrRet w (⟨#[110, 111, 116, 32]⟩ ++ atomT 0 pred l)) := by
  have B1 := Lib.hid ((Below.refl w.heap.size w).alloc (Nat.le_refl _) (.cells #[.int .i64 1, .string pred, .slice a l.length c, .int .i64 0, .int .i64 0, .string ⟨#[]⟩, .int .i64 0, .int .i64 0, .string ⟨#[]⟩, .int .i64 0, .string ⟨#[]⟩, .int .i64 0, .string ⟨#[]⟩, .int .i64 0, .int .i64 0, .slice none 0 0] 59))
  have S1 : Hid (w.heap.size ≤ (w.alloc (.cells #[.int .i64 1, .string pred, .slice a l.length c, .int .i64 0, .int .i64 0, .string ⟨#[]⟩, .int .i64 0, .int .i64 0, .string ⟨#[]⟩, .int .i64 0, .string ⟨#[]⟩, .int .i64 0, .string ⟨#[]⟩, .int .i64 0, .int .i64 0, .slice none 0 0] 59)).heap.size) := Lib.hid (by simp)
  have ca := Lib.hid (lawAtom_calls pred a l c N (w.alloc (.cells #[.int .i64 1, .string pred, .slice a l.length c, .int .i64 0, .int .i64 0, .string ⟨#[]⟩, .int .i64 0, .int .i64 0, .string ⟨#[]⟩, .int .i64 0, .string ⟨#[]⟩, .int .i64 0, .string ⟨#[]⟩, .int .i64 0, .int .i64 0, .slice none 0 0] 59)) (Nat.le_trans hN S1.out) (hr.on (B1.out.mono hN)) (hs.below B1.out) hp hn)
  have hz := atom_size hr.1 (show 0 < 5 by omega) hp hn
  clear hr hs
  generalize atomT 0 pred l = r at *
  generalize l.length = n at *
  go_enter Tryd.func19, Tryd.ntmps19
  go_wp2_with fail
  refine ca.out.mono ?_
  generalize World.alloc w _ = W0 at *
  rintro e w1 ⟨rfl, hb1⟩
  have B2 : Hid (Below w.heap.size w w1) := Lib.hid (B1.out.trans (hb1.mono S1.out))
  clear hb1 ca
  go_wp2_with fail
  go_ret
  exact ⟨rfl, B2.out⟩
set_option maxRecDepth 100000 in
set_option maxHeartbeats 600000 in
theorem lawPart_cmp (op : Nat) (ho : op < 6) (ta tb : Tm) (ha : TmOK ta) (hb : TmOK tb) (w : World) (hs : STab w) : Calls Tryd.prog 19 #[.agg #[.int .i64 2, .string ⟨#[]⟩, .slice none 0 0, .int .i64 op, .int .i64 ta.kind, .string ta.text, .int .i64 ta.n, .int .i64 tb.kind, .string tb.text, .int .i64 tb.n, .string ⟨#[]⟩, .int .i64 0, .string ⟨#[]⟩, .int .i64 0, .int .i64 0, .slice none 0 0]] w (StrRet w (cmpT op ta tb)) := by
  have FT : Hid (termT ta ++ ⟨#[32]⟩ ++ colS op ++ ⟨#[32]⟩ ++ termT tb = cmpT op ta tb) := Lib.hid rfl
  have hz1 := termT_size ha
  have hz2 := termT_size hb
  have hz3 := colS_size op ho
  have CA : Hid (∀ W, STab W → Calls Tryd.prog 13 #[.agg #[.int .i64 ta.kind, .string ta.text, .int .i64 ta.n]] W (StrRet W (termT ta))) := Lib.hid (fun W h => text_calls ta ha W h)
  have CB : Hid (∀ W, STab W → Calls Tryd.prog 13 #[.agg #[.int .i64 tb.kind, .string tb.text, .int .i64 tb.n]] W (StrRet W (termT tb))) := Lib.hid (fun W h => text_calls tb hb W h)
  generalize cmpT op ta tb = fT at *
  generalize termT ta = ra at *
  generalize termT tb = rb at *
  generalize ta.kind = a1 at *
  generalize ta.text = a2 at *
  generalize ta.n = a3 at *
  generalize tb.kind = b1 at *
  generalize tb.text = b2 at *
  generalize tb.n = b3 at *
  clear ha hb
  obtain ⟨M, hM⟩ : ∃ M, w.heap.size = M := ⟨_, rfl⟩
  have HM := Lib.hid hM
  have h6 : 6 ≤ M := by have := hs.sz; omega
  have B1 : Hid (Below M w (w.alloc (.cells #[.int .i64 2, .string ⟨#[]⟩, .slice none 0 0, .int .i64 op, .int .i64 a1, .string a2, .int .i64 a3, .int .i64 b1, .string b2, .int .i64 b3, .string ⟨#[]⟩, .int .i64 0, .string ⟨#[]⟩, .int .i64 0, .int .i64 0, .slice none 0 0] 59))) := Lib.hid ((Below.refl M w).alloc (by omega) _)
  have S1 : Hid ((w.alloc (.cells #[.int .i64 2, .string ⟨#[]⟩, .slice none 0 0, .int .i64 op, .int .i64 a1, .string a2, .int .i64 a3, .int .i64 b1, .string b2, .int .i64 b3, .string ⟨#[]⟩, .int .i64 0, .string ⟨#[]⟩, .int .i64 0, .int .i64 0, .slice none 0 0] 59)).heap.size = M + 1) := Lib.hid (by simp [hM])
  have Y1 : Hid ((w.alloc (.cells #[.int .i64 2, .string ⟨#[]⟩, .slice none 0 0, .int .i64 op, .int .i64 a1, .string a2, .int .i64 a3, .int .i64 b1, .string b2, .int .i64 b3, .string ⟨#[]⟩, .int .i64 0, .string ⟨#[]⟩, .int .i64 0, .int .i64 0, .slice none 0 0] 59)).heap[M]? = some (.cells #[.int .i64 2, .string ⟨#[]⟩, .slice none 0 0, .int .i64 op, .int .i64 a1, .string a2, .int .i64 a3, .int .i64 b1, .string b2, .int .i64 b3, .string ⟨#[]⟩, .int .i64 0, .string ⟨#[]⟩, .int .i64 0, .int .i64 0, .slice none 0 0] 59 (0, 0))) := Lib.hid (by rw [← hM]; exact box16 _ _ _)
  have T1 := Lib.hid (hs.on h6 B1.out)
  have QQ : Hid (∀ v, Below (M + 1) (w.alloc (.cells #[.int .i64 2, .string ⟨#[]⟩, .slice none 0 0, .int .i64 op, .int .i64 a1, .string a2, .int .i64 a3, .int .i64 b1, .string b2, .int .i64 b3, .string ⟨#[]⟩, .int .i64 0, .string ⟨#[]⟩, .int .i64 0, .int .i64 0, .slice none 0 0] 59)) v → v.cell? ⟨M, 3, none⟩ = some (.int .i64 op) ∧ v.cell? ⟨M, 4, none⟩ = some (.int .i64 a1) ∧ v.cell? ⟨M, 5, none⟩ = some (.string a2) ∧ v.cell? ⟨M, 6, none⟩ = some (.int .i64 a3) ∧ v.cell? ⟨M, 7, none⟩ = some (.int .i64 b1) ∧ v.cell? ⟨M, 8, none⟩ = some (.string b2) ∧ v.cell? ⟨M, 9, none⟩ = some (.int .i64 b3)) := Lib.hid (fun v h => by
    have z := (h.block M (by omega)).trans Y1.out
    exact ⟨cellAt z rfl, cellAt z rfl, cellAt z rfl, cellAt z rfl, cellAt z rfl, cellAt z rfl, cellAt z rfl⟩)
  have CS : Hid (∀ v, STab v → Calls Tryd.prog 43 #[.int .i64 op] v fun e w' => e = .returned (.string (colS op)) ∧ Below v.heap.size v w') := Lib.hid (fun v h => (colSign_calls op ho v h).mono fun e w' h9 => ⟨h9.1, by rw [← h9.2]; exact Below.refl _ _⟩)
  generalize colS op = sg at *
  clear hs hM
  have MX := HM.out
  go_enter Tryd.func19, Tryd.ntmps19
  go_wp2_with fail
  generalize World.alloc w _ = W0 at *
  have TT : Hid (∀ v, Below (M + 1) W0 v → STab v) := Lib.hid (fun v h => T1.out.on (by omega) h)
  have s0 : M + 1 ≤ W0.heap.size := by have := S1.out; omega
  have q0 : Below (M + 1) W0 W0 := Below.refl _ _
  obtain ⟨e3, e4, e5, e6, e7, e8, e9⟩ := QQ.out W0 q0
  have A1 : ∀ W, (Op.stringOp .add ra ⟨#[32]⟩).run Tryd.prog W = .ok (.string (ra ++ ⟨#[32]⟩)) W := fun W => run_string_add_sum W _ _ (by show ra.size + 1 ≤ _; omega)
  have A2 : ∀ W, (Op.stringOp .add (ra ++ ⟨#[32]⟩) sg).run Tryd.prog W = .ok (.string (ra ++ ⟨#[32]⟩ ++ sg)) W := fun W => run_string_add_sum W _ _ (by rw [ByteArray.size_append]; show ra.size + 1 + _ ≤ _; omega)
  have A3 : ∀ W, (Op.stringOp .add (ra ++ ⟨#[32]⟩ ++ sg) ⟨#[32]⟩).run Tryd.prog W = .ok (.string (ra ++ ⟨#[32]⟩ ++ sg ++ ⟨#[32]⟩)) W := fun W => run_string_add_sum W _ _ (by rw [ByteArray.size_append, ByteArray.size_append]; show ra.size + 1 + _ + 1 ≤ _; omega)
  have A4 : ∀ W, (Op.stringOp .add (ra ++ ⟨#[32]⟩ ++ sg ++ ⟨#[32]⟩) rb).run Tryd.prog W = .ok (.string fT) W := fun W => by rw [run_string_add_sum W _ _ (by rw [ByteArray.size_append, ByteArray.size_append, ByteArray.size_append]; show ra.size + 1 + _ + 1 + _ ≤ _; omega), FT.out]
  generalize ra ++ ⟨#[32]⟩ ++ sg ++ ⟨#[32]⟩ = r3 at *
  generalize ra ++ ⟨#[32]⟩ ++ sg = r2 at *
  generalize ra ++ ⟨#[32]⟩ = r1 at *
  go_region_held3 (fun w' => w'.cell? ⟨M, 3, none⟩ = some (.int .i64 op) ∧ w'.cell? ⟨M, 4, none⟩ = some (.int .i64 a1) ∧ w'.cell? ⟨M, 5, none⟩ = some (.string a2) ∧ w'.cell? ⟨M, 6, none⟩ = some (.int .i64 a3) ∧ w'.cell? ⟨M, 7, none⟩ = some (.int .i64 b1) ∧ w'.cell? ⟨M, 8, none⟩ = some (.string b2) ∧ w'.cell? ⟨M, 9, none⟩ = some (.int .i64 b3) ∧ Below (M + 1) W0 w' ∧ M + 1 ≤ w'.heap.size)
    (first | (exact ⟨e3, e4, e5, e6, e7, e8, e9, q0.drew, s0⟩) | (exact held7 QQ.out ‹_ ∧ _ ∧ _ ∧ _ ∧ _ ∧ _ ∧ _ ∧ Below (M + 1) W0 _ ∧ _› ‹Below _ _ _›))
    (first
      | (go_at_call 43; (with_reducible refine (CS.out _ (TT.out _ (held7b ‹_ ∧ _ ∧ _ ∧ _ ∧ _ ∧ _ ∧ _ ∧ Below (M + 1) W0 _ ∧ _›))).mono ?_); rintro e w4 ⟨rfl, hb4⟩)
      | (go_at_call 13; (with_reducible refine (CA.out _ (TT.out _ (held7b ‹_ ∧ _ ∧ _ ∧ _ ∧ _ ∧ _ ∧ _ ∧ Below (M + 1) W0 _ ∧ _›))).mono ?_); rintro e w5 ⟨rfl, hb5⟩)
      | (go_at_call 13; (with_reducible refine (CB.out _ (TT.out _ (held7b ‹_ ∧ _ ∧ _ ∧ _ ∧ _ ∧ _ ∧ _ ∧ Below (M + 1) W0 _ ∧ _›))).mono ?_); rintro e w6 ⟨rfl, hb6⟩))
  have q6 : Below M w w6 := B1.out.trans ((((q0.drew.trans (hb5.mono s0)).trans (hb4.mono (Nat.le_trans s0 hb5.size))).trans (hb6.mono (Nat.le_trans (Nat.le_trans s0 hb5.size) hb4.size))).mono (by omega))
  have Q6 := Lib.hid q6
  clear q6 e3 e4 e5 e6 e7 e8 e9 A1 A2 A3 A4
  go_wp2_with fail
  go_ret
  exact ⟨rfl, by rw [HM.out]; exact Q6.out⟩
set_option maxRecDepth 100000 in
set_option maxHeartbeats 600000 in
theorem lawPart_let (nm : ByteArray) (hnm : nm.size ≤ 100) {x : X} {N : Nat} {k1 : Int} {k2 : ByteArray} {k3 k4 : Int} {k5 : Option Addr} {k6 k7 : Nat} {w : World} (hx : XIn N w x ⟨k1, k2, k3, k4, k5, k6, k7⟩) (hN : N ≤ w.heap.size) (hs : STab w) (hl : (exprB x).length ≤ 100000) : Calls Tryd.prog 19 #[.agg #[.int .i64 3, .string ⟨#[]⟩, .slice none 0 0, .int .i64 0, .int .i64 0, .string ⟨#[]⟩, .int .i64 0, .int .i64 0, .string ⟨#[]⟩, .int .i64 0, .string nm, .int .i64 k1, .string k2, .int .i64 k3, .int .i64 k4, .slice k5 k6 k7]] w (StrRet w (letT nm x)) := by
  have FT : Hid (nm ++ ⟨#[32, 58, 61, 32]⟩ ++ exprT x = letT nm x) := Lib.hid rfl
  have hz1 : (exprT x).size ≤ 100000 := by rw [exprT_size]; exact hl
  obtain ⟨M, hM⟩ : ∃ M, w.heap.size = M := ⟨_, rfl⟩
  have HM := Lib.hid hM
  have h6 : 6 ≤ M := by have := hs.sz; omega
  have CX : Hid (∀ v, Below M w v → Calls Tryd.prog 22 #[.agg #[.int .i64 k1, .string k2, .int .i64 k3, .int .i64 k4, .slice k5 k6 k7]] v (StrRet v (exprT x))) := Lib.hid (fun v h => (expr_all x N k1 k2 k3 k4 k5 k6 k7 v (hx.on (h.mono (by omega))) (by have := h.size; omega) (hs.on h6 h) hl))
  have B1 : Hid (Below M w (w.alloc (.cells #[.int .i64 3, .string ⟨#[]⟩, .slice none 0 0, .int .i64 0, .int .i64 0, .string ⟨#[]⟩, .int .i64 0, .int .i64 0, .string ⟨#[]⟩, .int .i64 0, .string nm, .int .i64 k1, .string k2, .int .i64 k3, .int .i64 k4, .slice k5 k6 k7] 59))) := Lib.hid ((Below.refl M w).alloc (by omega) _)
  have S1 : Hid ((w.alloc (.cells #[.int .i64 3, .string ⟨#[]⟩, .slice none 0 0, .int .i64 0, .int .i64 0, .string ⟨#[]⟩, .int .i64 0, .int .i64 0, .string ⟨#[]⟩, .int .i64 0, .string nm, .int .i64 k1, .string k2, .int .i64 k3, .int .i64 k4, .slice k5 k6 k7] 59)).heap.size = M + 1) := Lib.hid (by simp [hM])
  have Y1 : Hid ((w.alloc (.cells #[.int .i64 3, .string ⟨#[]⟩, .slice none 0 0, .int .i64 0, .int .i64 0, .string ⟨#[]⟩, .int .i64 0, .int .i64 0, .string ⟨#[]⟩, .int .i64 0, .string nm, .int .i64 k1, .string k2, .int .i64 k3, .int .i64 k4, .slice k5 k6 k7] 59)).heap[M]? = some (.cells #[.int .i64 3, .string ⟨#[]⟩, .slice none 0 0, .int .i64 0, .int .i64 0, .string ⟨#[]⟩, .int .i64 0, .int .i64 0, .string ⟨#[]⟩, .int .i64 0, .string nm, .int .i64 k1, .string k2, .int .i64 k3, .int .i64 k4, .slice k5 k6 k7] 59 (0, 0))) := Lib.hid (by rw [← hM]; exact box16 _ _ _)
  have QQ : Hid (∀ v, Below (M + 1) (w.alloc (.cells #[.int .i64 3, .string ⟨#[]⟩, .slice none 0 0, .int .i64 0, .int .i64 0, .string ⟨#[]⟩, .int .i64 0, .int .i64 0, .string ⟨#[]⟩, .int .i64 0, .string nm, .int .i64 k1, .string k2, .int .i64 k3, .int .i64 k4, .slice k5 k6 k7] 59)) v → v.cell? ⟨M, 10, none⟩ = some (.string nm) ∧ v.cell? ⟨M, 11, none⟩ = some (.int .i64 k1) ∧ v.cell? ⟨M, 12, none⟩ = some (.string k2) ∧ v.cell? ⟨M, 13, none⟩ = some (.int .i64 k3) ∧ v.cell? ⟨M, 14, none⟩ = some (.int .i64 k4) ∧ v.cell? ⟨M, 15, none⟩ = some (.slice k5 k6 k7)) := Lib.hid (fun v h => by
    have z := (h.block M (by omega)).trans Y1.out
    exact ⟨cellAt z rfl, cellAt z rfl, cellAt z rfl, cellAt z rfl, cellAt z rfl, cellAt z rfl⟩)
  clear hs hM hx hl
  generalize letT nm x = fT at *
  generalize exprT x = rx at *
  have MX := HM.out
  go_enter Tryd.func19, Tryd.ntmps19
  go_wp2_with fail
  have CW : Hid (∀ v, Below (M + 1) (w.alloc (.cells #[.int .i64 3, .string ⟨#[]⟩, .slice none 0 0, .int .i64 0, .int .i64 0, .string ⟨#[]⟩, .int .i64 0, .int .i64 0, .string ⟨#[]⟩, .int .i64 0, .string nm, .int .i64 k1, .string k2, .int .i64 k3, .int .i64 k4, .slice k5 k6 k7] 59)) v → Calls Tryd.prog 22 #[.agg #[.int .i64 k1, .string k2, .int .i64 k3, .int .i64 k4, .slice k5 k6 k7]] v (StrRet v rx)) := Lib.hid (fun v h => CX.out v (B1.out.trans (h.mono (by omega))))
  generalize World.alloc w _ = W0 at *
  have s0 : M + 1 ≤ W0.heap.size := by have := S1.out; omega
  have q0 : Below (M + 1) W0 W0 := Below.refl _ _
  obtain ⟨e3, e4, e5, e6, e7, e8⟩ := QQ.out W0 q0
  have A1 : ∀ W, (Op.stringOp .add nm ⟨#[32, 58, 61, 32]⟩).run Tryd.prog W = .ok (.string (nm ++ ⟨#[32, 58, 61, 32]⟩)) W := fun W => run_string_add_sum W _ _ (by show nm.size + 4 ≤ _; omega)
  have A2 : ∀ W, (Op.stringOp .add (nm ++ ⟨#[32, 58, 61, 32]⟩) rx).run Tryd.prog W = .ok (.string fT) W := fun W => by rw [run_string_add_sum W _ _ (by rw [ByteArray.size_append]; show nm.size + 4 + _ ≤ _; omega), FT.out]
  generalize nm ++ ⟨#[32, 58, 61, 32]⟩ = r1 at *
  go_region_held3 (fun w' => w'.cell? ⟨M, 10, none⟩ = some (.string nm) ∧ w'.cell? ⟨M, 11, none⟩ = some (.int .i64 k1) ∧ w'.cell? ⟨M, 12, none⟩ = some (.string k2) ∧ w'.cell? ⟨M, 13, none⟩ = some (.int .i64 k3) ∧ w'.cell? ⟨M, 14, none⟩ = some (.int .i64 k4) ∧ w'.cell? ⟨M, 15, none⟩ = some (.slice k5 k6 k7) ∧ Below (M + 1) W0 w' ∧ M + 1 ≤ w'.heap.size)
    (first | (exact ⟨e3, e4, e5, e6, e7, e8, q0.drew, s0⟩) | (exact held6 QQ.out ‹_ ∧ _ ∧ _ ∧ _ ∧ _ ∧ _ ∧ Below (M + 1) W0 _ ∧ _› ‹Below _ _ _›))
    (first
      | (go_at_call 22; (with_reducible refine (CW.out _ (held6b ‹_ ∧ _ ∧ _ ∧ _ ∧ _ ∧ _ ∧ Below (M + 1) W0 _ ∧ _›)).mono ?_); rintro e w5 ⟨rfl, hb5⟩))
  have q6 : Below M w w5 := B1.out.trans ((q0.drew.trans (hb5.mono s0)).mono (by omega))
  have Q6 := Lib.hid q6
  clear q6 e3 e4 e5 e6 e7 e8 A1 A2
  go_wp2_with fail
  go_ret
  exact ⟨rfl, by rw [HM.out]; exact Q6.out⟩
end Go.Proofs.YtaglbeokecbihaaDoor
