/- A builder under way; expressions in memory; isOperation, levelOf, wraps. -/
import Derived.Test.YtaglbeokecbihaaDoorSy2
namespace Go.Proofs.YtaglbeokecbihaaDoor
open Go.RowKit
set_option linter.unusedVariables false
set_option linter.unusedSimpArgs false

theorem bs_app (a b : ByteArray) : bs (a ++ b) = bs a ++ bs b := by simp [bs]
theorem bs_mk (l : Bytes) : bs ⟨l.toArray⟩ = l := by simp [bs]
theorem bs_back (s : ByteArray) : (⟨(bs s).toArray⟩ : ByteArray) = s := by cases s; simp [bs]
/-- The builder at block B, as it is told. -/
structure Bld (B : Nat) (acc : Bytes) (W : World) : Prop where
  b : Lib.IsBuilderF 93 5 B B (Lib.byteCells acc) W
  s : B < W.heap.size
theorem Bld.below {B : Nat} {acc : Bytes} {W W' : World} (h : Bld B acc W) (hb : Below W.heap.size W W') : Bld B acc W' :=
  have k : ∀ p, Lib.BuilderAtF 93 5 B B p (Lib.byteCells acc) W → Lib.BuilderAtF 93 5 B B p (Lib.byteCells acc) W' := fun p ⟨hB, v, hv, hown, hne⟩ =>
    ⟨hB, v, (hb.block B h.s).trans hv, hown.kept (row := none) ⟨hb.os, hb.tape, hb.output, hb.size, fun j hj _ => hb.block j hj⟩ (Classical.em _), hne⟩
  ⟨h.b.elim (fun x => .inl (k _ x)) (fun x => .inr (k _ x)), Nat.lt_of_lt_of_le h.s hb.size⟩
theorem bld_new (w : World) {B : Nat} (hB : w.heap.size = B) : Bld B [] (w.alloc (.cells #[.pointer none, .slice none 0 0] 93)) :=
  ⟨.inl ⟨Nat.le_refl _, .slice none 0 0, by rw [← hB]; exact heap_alloc_new _ _, World.ownsRowF_nil _ _ _ _, by simp [Value.ownBlock]⟩, by simp [hB]⟩
/-- Only the builder at B has turned, and new memory. -/
structure Kp (B : Nat) (W W' : World) : Prop where
  bel : Below B W W'
  oth : Lib.OthersKept 5 (some B) W W'
theorem Kp.refl (B : Nat) (W : World) : Kp B W W := ⟨Below.refl _ _, Lib.OthersKept.refl _ _ _⟩
theorem Kp.trans {B : Nat} {W W1 W2 : World} (h : Kp B W W1) (k : Kp B W1 W2) : Kp B W W2 := ⟨h.bel.trans k.bel, h.oth.trans k.oth⟩
theorem Kp.add {B : Nat} {W W1 W2 : World} (h : Kp B W W1) (hB : B ≤ W1.heap.size) (hb : Below W1.heap.size W1 W2) : Kp B W W2 := ⟨h.bel.trans (hb.mono hB), fun k o hk hn hT => (hb.block k (Array.getElem?_eq_some_iff.1 (h.oth k o hk hn hT)).1).trans (h.oth k o hk hn hT)⟩
theorem Kp.of {B : Nat} {W W1 : World} (hB : B ≤ W.heap.size) (hb : Below W.heap.size W W1) : Kp B W W1 := (Kp.refl B W).add hB hb
/-- A box that is no row of bytes, behind the builder, lies on. -/
theorem Kp.box {B k : Nat} {W W' : World} {cs : Array Value} {T : TypeId} (h : Kp B W W') (hk : W.heap[k]? = some (.cells cs T (0, 0))) (hB : k ≠ B) (hT : T ≠ 5) : W'.heap[k]? = some (.cells cs T (0, 0)) :=
  h.oth k _ hk (fun e => hB (Option.some.inj e)) (fun c fz e => by cases e; exact hT rfl)
def WrRet (B : Nat) (acc : Bytes) (W : World) (r : Value) (e : Ending) (w' : World) : Prop := e = .returned r ∧ Bld B acc w' ∧ Kp B W w'
theorem Bld.wb {B : Nat} {acc : Bytes} {W : World} (h : Bld B acc W) (b : UInt8) (hl : acc.length ≤ 1000000) : Calls Tryd.prog 37 #[.pointer (some ⟨B, 0, none⟩), .int .u8 (b.toNat : Int)] W (WrRet B (acc ++ [b]) W .nilIface) :=
  (Tryd.wb_k B B (Lib.byteCells acc) (b.toNat : Int) W h.b (by rw [byteCells_len]; omega) (by have := h.s; omega)).mono fun e w' ⟨he, hb, hbel, ho⟩ => ⟨he, ⟨.inr (by rw [byteCells_push] at hb; exact hb), Nat.lt_of_lt_of_le h.s hbel.size⟩, hbel, ho⟩
theorem Bld.ws {B : Nat} {acc : Bytes} {W : World} (h : Bld B acc W) (m : ByteArray) (hl : acc.length ≤ 1000000) (hm : m.size ≤ 1000000) : Calls Tryd.prog 35 #[.pointer (some ⟨B, 0, none⟩), .string m] W (WrRet B (acc ++ bs m) W (.tuple #[.int .i64 m.size, .nilIface])) :=
  (Tryd.ws_k B B (Lib.byteCells acc) m W h.b (by rw [byteCells_len]; omega) (by have := h.s; omega)).mono fun e w' ⟨he, hb, hbel, ho⟩ => ⟨he, ⟨.inr (by
    have e1 : Lib.strCells m = Lib.byteCells (bs m) := by rw [← strCells_lit, bs_back]
    rw [e1, byteCells_app] at hb; exact hb), Nat.lt_of_lt_of_le h.s hbel.size⟩, hbel, ho⟩
theorem Bld.str {B : Nat} {acc : Bytes} {W : World} (h : Bld B acc W) : Calls Tryd.prog 38 #[.pointer (some ⟨B, 0, none⟩)] W fun e w' => e = .returned (.string ⟨acc.toArray⟩) ∧ Below B W w' :=
  (Tryd.Builder_String_any_k B B acc W h.b (by have := h.s; omega)).mono fun e w' ⟨he, _, hbel, _⟩ => ⟨he, hbel⟩
/-- An expression. -/
inductive X where
  | leaf (t : Tm)
  | op (o : Nat) (a b : X)
structure XV where
  kind : Int
  text : ByteArray
  n : Int
  op : Int
  adr : Option Addr
  len : Nat
  cap : Nat
def XV.agg (v : XV) : Value := .agg #[.int .i64 v.kind, .string v.text, .int .i64 v.n, .int .i64 v.op, .slice v.adr v.len v.cap]
def XV.cells (v : XV) : List Value := [.int .i64 v.kind, .string v.text, .int .i64 v.n, .int .i64 v.op, .slice v.adr v.len v.cap]
/-- v is the expression x; its kids lie in blocks before N. -/
def XIn (N : Nat) (w : World) : X → XV → Prop
  | .leaf t, v => v = ⟨t.kind, t.text, t.n, 0, none, 0, 0⟩ ∧ TmOK t
  | .op o a b, v => ∃ g c va vb, v = ⟨0, ⟨#[]⟩, 0, o, some ⟨g, 0, none⟩, 2, c⟩ ∧ o < 5 ∧ g < N ∧ (∀ j u, va.cells[j]? = some u → w.cell? ⟨g, j, none⟩ = some u) ∧ (∀ j u, vb.cells[j]? = some u → w.cell? ⟨g, 5 + j, none⟩ = some u) ∧ XIn N w a va ∧ XIn N w b vb
theorem XIn.on {N : Nat} {w w' : World} (hb : Below N w w') : ∀ {x : X} {v : XV}, XIn N w x v → XIn N w' x v
  | .leaf _, _, h => h
  | .op _ _ _, _, ⟨g, c, va, vb, h1, h2, h3, h4, h5, h6, h7⟩ => ⟨g, c, va, vb, h1, h2, h3, fun j u hu => (hb.cell (p := ⟨g, j, none⟩) h3).trans (h4 j u hu), fun j u hu => (hb.cell (p := ⟨g, 5 + j, none⟩) h3).trans (h5 j u hu), XIn.on hb h6, XIn.on hb h7⟩
theorem XIn.mono {N M : Nat} {w : World} (hM : N ≤ M) : ∀ {x : X} {v : XV}, XIn N w x v → XIn M w x v
  | .leaf _, _, h => h
  | .op _ _ _, _, ⟨g, c, va, vb, h1, h2, h3, h4, h5, h6, h7⟩ => ⟨g, c, va, vb, h1, h2, Nat.lt_of_lt_of_le h3 hM, h4, h5, XIn.mono hM h6, XIn.mono hM h7⟩
def X.isOp : X → Bool
  | .leaf _ => false
  | .op _ _ _ => true
def lvl (o : Nat) : Nat := if o ≤ 1 then 1 else if o ≤ 4 then 2 else 0
def wrapB (o i : Nat) : X → Bool
  | .leaf _ => false
  | .op p _ _ => (lvl p == 1 && lvl o == 2) || (i == 1 && lvl p == lvl o)
def parB (p : Bool) (l : Bytes) : Bytes := if p = true then [40] ++ l ++ [41] else l
/-- An expression as it is written. -/
noncomputable def exprB : X → Bytes
  | .leaf t => bs (termT t)
  | .op o a b => parB (wrapB o 0 a) (exprB a) ++ ([32] ++ bs (ariS o) ++ [32]) ++ parB (wrapB o 1 b) (exprB b)
def X.nodes : X → Nat
  | .leaf _ => 1
  | .op _ a b => 1 + a.nodes + b.nodes
theorem ariS_size : ∀ i, i < 5 → (ariS i).size = 1 := by decide
theorem par_len (p : Bool) (l : Bytes) : (parB p l).length ≤ l.length + 2 := by unfold parB; split <;> simp <;> omega
theorem exprB_len {N : Nat} {w : World} : ∀ {x : X} {v : XV}, XIn N w x v → (exprB x).length ≤ 50 * x.nodes
  | .leaf t, _, ⟨_, h⟩ => by have := termT_size h; simp only [exprB, X.nodes, bs_len]; omega
  | .op o a b, _, ⟨_, _, _, _, _, ho, _, _, _, ha, hb⟩ => by
    have h1 := exprB_len ha
    have h2 := exprB_len hb
    have h3 := par_len (wrapB o 0 a) (exprB a)
    have h4 := par_len (wrapB o 1 b) (exprB b)
    have h5 := ariS_size o ho
    simp only [exprB, X.nodes, List.length_append, List.length_cons, List.length_nil, bs_len]; omega
theorem XIn.isOp {N : Nat} {w : World} {x : X} {v : XV} (h : XIn N w x v) : (v.len : Int) = if x.isOp = true then 2 else 0 := by
  cases x with
  | leaf t => obtain ⟨rfl, _⟩ := h; rfl
  | op o a b => obtain ⟨_, _, _, _, rfl, _⟩ := h; rfl
def BoolRet (w : World) (b : Bool) (e : Ending) (w' : World) : Prop := e = .returned (.bool b) ∧ Below w.heap.size w w'
set_option maxRecDepth 100000 in
theorem isOp_calls {N : Nat} {x : X} {v : XV} (w : World) {w0 : World} (h : XIn N w0 x v) : Calls Tryd.prog 54 #[v.agg] w (BoolRet w x.isOp) := by
  cases x with
  | leaf t =>
    obtain ⟨rfl, _⟩ := h
    have B1 := Lib.hid ((Below.refl w.heap.size w).alloc (Nat.le_refl _) (.cells #[.int .i64 t.kind, .string t.text, .int .i64 t.n, .int .i64 0, .slice none 0 0] 57))
    simp only [XV.agg]
    go_enter Tryd.func54, Tryd.ntmps54
    go_wp2_with fail
    go_ret
    exact ⟨rfl, B1.out⟩
  | op o a b =>
    obtain ⟨g, c, va, vb, rfl, _⟩ := h
    have B1 := Lib.hid ((Below.refl w.heap.size w).alloc (Nat.le_refl _) (.cells #[.int .i64 0, .string ⟨#[]⟩, .int .i64 0, .int .i64 o, .slice (some ⟨g, 0, none⟩) 2 c] 57))
    simp only [XV.agg]
    go_enter Tryd.func54, Tryd.ntmps54
    go_wp2_with fail
    go_ret
    exact ⟨rfl, B1.out⟩
set_option maxRecDepth 100000 in
theorem level_calls (o : Nat) (ho : o < 5) (w : World) : Calls Tryd.prog 70 #[.int .i64 o] w fun e w' => e = .returned (.int .i64 (lvl o : Nat)) ∧ w = w' := by
  match o, ho with
  | 0, _ => go_enter Tryd.func70, Tryd.ntmps70; go_wp2_with fail; go_ret; exact ⟨rfl, rfl⟩
  | 1, _ => go_enter Tryd.func70, Tryd.ntmps70; go_wp2_with fail; go_ret; exact ⟨rfl, rfl⟩
  | 2, _ => go_enter Tryd.func70, Tryd.ntmps70; go_wp2_with fail; go_ret; exact ⟨rfl, rfl⟩
  | 3, _ => go_enter Tryd.func70, Tryd.ntmps70; go_wp2_with fail; go_ret; exact ⟨rfl, rfl⟩
  | 4, _ => go_enter Tryd.func70, Tryd.ntmps70; go_wp2_with fail; go_ret; exact ⟨rfl, rfl⟩
end Go.Proofs.YtaglbeokecbihaaDoor
