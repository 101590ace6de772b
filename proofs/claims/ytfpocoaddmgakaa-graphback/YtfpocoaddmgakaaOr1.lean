/- What order keeps in memory. -/
import Derived.Test.YtfpocoaddmgakaaOrM
namespace Go.Proofs.Ytfpocoaddmgakaa
open Go.RowKit
set_option linter.unusedVariables false
set_option linter.unusedSimpArgs false

def edgesI (ES : List (Nat × Nat)) : List (Int × Int) := ES.map fun e => ((e.1 : Int), (e.2 : Int))
def usersI (ES : List (Nat × Nat)) (b : Nat) : List Int := (usersOf ES b).map fun (a : Nat) => (a : Int)
theorem users_push {ES : List (Nat × Nat)} {e : Nat × Nat} {i : Nat} : usersI (ES ++ [e]) i = if i = e.2 then usersI ES e.2 ++ [(e.1 : Int)] else usersI ES i := by
  unfold usersI usersOf
  rw [List.filter_append, List.map_append, List.map_append]
  by_cases h : i = e.2
  · subst h; simp
  · rw [if_neg h]; simp; exact fun e => h e.symm
theorem cnt_grow {ES : List (Nat × Nat)} {e : Nat × Nat} : (fun a => cntE (ES ++ [e]) [] a) = upd (fun a => cntE ES [] a) e.1 (cntE ES [] e.1 + 1) := by
  funext a
  unfold cntE
  by_cases h : a = e.1
  · subst h; rw [upd_same, List.countP_append]; simp
  · rw [upd_ne _ _ h, List.countP_append]; simp; exact fun e => h e.symm
theorem cnt_le (ES : List (Nat × Nat)) (S : List Nat) (a : Nat) : cntE ES S a ≤ ES.length := List.countP_le_length
theorem users_len (ES : List (Nat × Nat)) (b : Nat) : (usersI ES b).length ≤ ES.length := by
  unfold usersI usersOf
  rw [List.length_map, List.length_map]
  exact List.length_filter_le _ _

/-- While the edges are told. -/
structure O1 (B : Nat) (w wr : World) (m : Nat) (ES : List (Nat × Nat)) (K : List Value) : Prop where
  wt : wr.heap[B]? = some (.cells (arr m fun a => (cntE ES [] a : Int)) 3 (0, 0))
  pl : PL (B + 1) wr (sl (B + 1) m) K (usersI ES)
  len : K.length = m
  be : Below B w wr
  sz : B + 2 ≤ wr.heap.size
/-- An edge lies in its box, and its first end is counted. -/
theorem O1.count {B : Nat} {w wr : World} {m : Nat} {ES : List (Nat × Nat)} {K : List Value} (h : O1 B w wr m ES K) (a b : Nat) (ha : a < m) :
    ∃ Y, Y = (wr.setCell ⟨B, a, none⟩ (.int .i64 ((cntE ES [] a : Int) + 1))).alloc (.cells #[.int .i64 (a : Int), .int .i64 (b : Int)] 47) ∧
      Y.heap[B]? = some (.cells (arr m fun x => ((upd (fun a => cntE ES [] a) a (cntE ES [] a + 1) x : Nat) : Int)) 3 (0, 0)) ∧ PL (B + 1) Y (sl (B + 1) m) K (usersI ES) ∧ Below B w Y ∧ B + 2 ≤ Y.heap.size ∧ Y.cell? ⟨wr.heap.size, 0, none⟩ = some (.int .i64 (a : Int)) ∧ Y.cell? ⟨wr.heap.size, 1, none⟩ = some (.int .i64 (b : Int)) ∧ wr.heap.size < Y.heap.size := by
  refine ⟨_, rfl, ?_⟩
  have sz := h.sz
  have kB : Keeps (fun c => c = B) wr (wr.setCell ⟨B, a, none⟩ (.int .i64 ((cntE ES [] a : Int) + 1))) := (Keeps.refl (fun c => c = B) _).setCell (p := ⟨B, a, none⟩) rfl _
  have szA : (wr.setCell ⟨B, a, none⟩ (.int .i64 ((cntE ES [] a : Int) + 1))).heap.size = wr.heap.size := by simp
  have n0 := heap_alloc_new (wr.setCell ⟨B, a, none⟩ (.int .i64 ((cntE ES [] a : Int) + 1))) (.cells #[.int .i64 (a : Int), .int .i64 (b : Int)] 47)
  rw [szA] at n0
  refine ⟨?_, ?_, ?_, ?_, ?_, ?_, ?_⟩
  · rw [heap_alloc_old _ _ (by rw [szA]; omega), heap_setCell_same _ B a _ 3 _ h.wt, cast_upd]
    have := arr_set (n := m) (f := fun a => (cntE ES [] a : Int)) (i := a) ((cntE ES [] a : Int) + 1)
    rw [this]; rfl
  · exact (h.pl.keeps kB (fun c hc e => by have := (h.pl.hasLt hc).1; omega)).below ((Below.refl _ _).alloc (Nat.le_refl _) _)
  · exact (h.be.trans (kB.below (by omega) (fun c e => by omega))).alloc (by rw [szA]; omega) _
  · simp; omega
  · rw [cell_of_row _ _ 0 _ 47 (0, 0) n0]; rfl
  · rw [cell_of_row _ _ 1 _ 47 (0, 0) n0]; rfl
  · simp

/-- While components are placed: the counts at B, the heap at g, the list lv; all else that lay below D has stayed. -/
structure OS (B D : Nat) (w3 wr : World) (m : Nat) (W : Nat → Nat) (g : Nat) (own : Option Nat) (bag : List (Int × Int)) (p : Int) (lv : Value) (L : List Value) : Prop where
  wt : wr.heap[B]? = some (.cells (arr m fun a => (W a : Int)) 3 (0, 0))
  kp : Keeps (fun b => b = B ∨ D ≤ b) w3 wr
  hs : HS ltL wr g own fL bag p
  ls : wr.ownsRow D 22 1 lv L.length L
  gD : D ≤ g
  oD : ∀ b, own = some b → D ≤ b
  lg : lv.ownBlock ≠ some g
  lo : ∀ b, lv.ownBlock = some b → own ≠ some b
  BD : B < D
  sz : D ≤ wr.heap.size
section
variable {B D : Nat} {w3 wr : World} {m : Nat} {W : Nat → Nat} {g : Nat} {own : Option Nat} {bag : List (Int × Int)} {p : Int} {lv : Value} {L : List Value}
/-- The heap has worked. -/
theorem OS.heap (h : OS B D w3 wr m W g own bag p lv L) {w' : World} {own' : Option Nat} {bag' : List (Int × Int)} {p' : Int} (k : Keeps (fun b => b = g ∨ own = some b) wr w') (hs : HS ltL w' g own' fL bag' p') (ho : ∀ b, own' = some b → own = some b ∨ wr.heap.size ≤ b) : OS B D w3 w' m W g own' bag' p' lv L := by
  have hgD := h.gD
  have hBD := h.BD
  have hsz := h.sz
  refine ⟨(k.block B (by omega) (fun e => ?_)).trans h.wt, h.kp.trans (k.mono (fun b _ e => ?_)), hs, owns_keeps h.ls k (fun b hb e => ?_), h.gD, fun b hb => ?_, h.lg, fun b hb e => ?_, h.BD, by have := k.size; omega⟩
  · rcases e with e | e
    · omega
    · have := h.oD B e; omega
  · rcases e with e | e
    · right; omega
    · right; exact h.oD b e
  · rcases e with e | e
    · exact h.lg (by rw [hb, e])
    · exact h.lo b hb e
  · rcases ho b hb with e | e
    · exact h.oD b e
    · omega
  · rcases ho b e with e | e
    · exact h.lo b hb e
    · have := (h.ls.lt b hb).2; omega
/-- A count is changed. -/
theorem OS.wait (h : OS B D w3 wr m W g own bag p lv L) (u x : Nat) : OS B D w3 (wr.setCell ⟨B, u, none⟩ (.int .i64 (x : Int))) m (upd W u x) g own bag p lv L := by
  have hgD := h.gD
  have hBD := h.BD
  have k : Keeps (fun b => b = B) wr (wr.setCell ⟨B, u, none⟩ (.int .i64 (x : Int))) := (Keeps.refl (fun b => b = B) wr).setCell (p := ⟨B, u, none⟩) rfl _
  refine ⟨?_, h.kp.trans (k.mono (fun b _ e => .inl e)), h.hs.keeps k (by omega) (fun b hb e => by have := h.oD b hb; omega), owns_keeps h.ls k (fun b hb e => by have := (h.ls.lt b hb).1; omega), h.gD, h.oD, h.lg, h.lo, h.BD, by have := k.size; have := h.sz; omega⟩
  rw [heap_setCell_same _ B u _ 3 _ h.wt, arr_set, cast_upd]
/-- One is placed. -/
theorem OS.place (h : OS B D w3 wr m W g own bag p lv L) {w5 : World} {o : Obj} {v' x : Value} (hown : w5.ownsRow D 22 1 v' (L.length + 1) (L ++ [x])) (hgrow : (wr.alloc o).grownBy w5 lv.ownBlock) (hat : v'.ownBlock = lv.ownBlock ∨ v'.ownBlock = some (wr.heap.size + 1)) : OS B D w3 w5 m W g own bag p v' (L ++ [x]) := by
  have hgD := h.gD
  have hBD := h.BD
  have hsz := h.sz
  have k : Keeps (fun b => lv.ownBlock = some b) wr w5 := ((Keeps.refl (fun b => lv.ownBlock = some b) wr).alloc o).trans (Keeps.of_grown hgrow (fun b hb => hb))
  have lD : ∀ b, lv.ownBlock = some b → D ≤ b := fun b hb => (h.ls.lt b hb).1
  obtain ⟨hg1, hg2⟩ := h.hs.lt
  refine ⟨(k.block B (by omega) (fun e => by have := lD B e; omega)).trans h.wt, h.kp.trans (k.mono (fun b _ e => .inr (lD b e))), h.hs.keeps k h.lg (fun b hb e => h.lo b e hb), by rw [List.length_append]; exact hown, h.gD, h.oD, fun e => ?_, fun b hb e => ?_, h.BD, by have := k.size; omega⟩
  · rcases hat with e2 | e2
    · exact h.lg (by rw [← e2]; exact e)
    · rw [e2] at e; simp at e; omega
  · rcases hat with e2 | e2
    · exact h.lo b (by rw [← e2]; exact hb) e
    · rw [e2] at hb; simp at hb; have := hg2 b e; omega
theorem OS.drew (h : OS B D w3 wr m W g own bag p lv L) : OS B D w3 wr.drew m W g own bag p lv L := ⟨h.wt, ⟨h.kp.os, h.kp.tape, h.kp.output, h.kp.size, h.kp.block⟩, h.hs.keeps (N := fun _ => False) (Keeps.of_below (below_drew (Below.refl _ _))) (fun h => h) (fun _ _ h => h), h.ls, h.gD, h.oD, h.lg, h.lo, h.BD, h.sz⟩
end
/-- While those that wait for none are gathered. -/
structure L2 (B D : Nat) (w3 wr : World) (m : Nat) (ES : List (Nat × Nat)) (k : Nat) (own : Option Nat) (bag : List (Int × Int)) (p : Int) : Prop where
  os : OS B D w3 wr m (fun a => cntE ES [] a) D own bag p (.slice none 0 0) []
  bg : ∀ x : Int, x ∈ bag.map (·.1) ↔ ∃ a : Nat, x = (a : Int) ∧ a < k ∧ cntE ES [] a = 0
  nd : (bag.map (·.1)).Nodup
  cnt : p = (bag.length : Int)
  le : bag.length ≤ k
theorem L2.push {B D : Nat} {w3 wr : World} {m : Nat} {ES : List (Nat × Nat)} {k : Nat} {own : Option Nat} {bag : List (Int × Int)} {p : Int} (h : L2 B D w3 wr m ES k own bag p) (h0 : cntE ES [] k = 0) (hk : k ≤ 100000) :
    Calls Try.prog 23 #[.pointer (some ⟨D, 0, none⟩), .int .i64 k] wr fun e w' => e = .returned (.tuple #[]) ∧ ∃ own' bag' p', L2 B D w3 w' m ES (k + 1) own' bag' p' := by
  have hle := h.le
  refine (hs_push ordL befL h.os.hs (k : Int) (by omega) (by rw [h.cnt]; omega) (by rw [h.cnt]; omega)).mono ?_
  rintro e w' ⟨rfl, own', h1, h2, h3⟩
  refine ⟨rfl, own', _, _, h.os.heap h2 h1 h3, fun x => ?_, ?_, by rw [h.cnt, List.length_cons]; omega, by rw [List.length_cons]; omega⟩
  · rw [List.map_cons, List.mem_cons, h.bg]
    constructor
    · rintro (rfl | ⟨a, rfl, h1, h2⟩)
      · exact ⟨k, rfl, by omega, h0⟩
      · exact ⟨a, rfl, by omega, h2⟩
    · rintro ⟨a, rfl, h1, h2⟩
      by_cases e : a = k
      · subst e; exact .inl rfl
      · exact .inr ⟨a, rfl, by omega, h2⟩
  · rw [List.map_cons, List.nodup_cons]
    refine ⟨fun hin => ?_, h.nd⟩
    obtain ⟨a, e, h1, _⟩ := (h.bg _).1 hin
    have e : (k : Int) = (a : Int) := e
    omega
theorem L2.skip {B D : Nat} {w3 wr : World} {m : Nat} {ES : List (Nat × Nat)} {k : Nat} {own : Option Nat} {bag : List (Int × Int)} {p : Int} (h : L2 B D w3 wr m ES k own bag p) (h0 : cntE ES [] k ≠ 0) : L2 B D w3 wr m ES (k + 1) own bag p := by
  refine ⟨h.os, fun x => ?_, h.nd, h.cnt, by have := h.le; omega⟩
  rw [h.bg]
  constructor
  · rintro ⟨a, rfl, h1, h2⟩; exact ⟨a, rfl, by omega, h2⟩
  · rintro ⟨a, rfl, h1, h2⟩
    refine ⟨a, rfl, ?_, h2⟩
    have : a ≠ k := fun e => h0 (e ▸ h2)
    omega
theorem L2.ki {B D : Nat} {w3 wr : World} {m : Nat} {ES : List (Nat × Nat)} {own : Option Nat} {bag : List (Int × Int)} {p : Int} (h : L2 B D w3 wr m ES m own bag p) : KI m ES [] (fun a => cntE ES [] a) bag p := by
  refine ⟨Greedy.nil, fun a _ => rfl, fun x => ?_, h.nd, by rw [h.cnt]; simp⟩
  rw [h.bg]
  constructor
  · rintro ⟨a, rfl, h1, h2⟩; exact ⟨a, rfl, h1, by simp, cnt_zero.1 h2⟩
  · rintro ⟨a, rfl, h1, _, h2⟩; exact ⟨a, rfl, h1, cnt_zero.2 h2⟩

/-- The list of those placed. -/
def placed (KP : List RV) (S : List Nat) : List Value := S.map fun c => encV (atV KP c)
/-- Between two rounds, behind a pop. -/
def L3 (B D : Nat) (w3 : World) (KP : List RV) (m : Nat) (ES : List (Nat × Nat)) (wr : World) (s11 s12 s13 : Value) : Prop :=
  ∃ S own bag p W, OS B D w3 wr m W D own bag p s11 (placed KP S) ∧ ((s13 = .bool false ∧ KI m ES S W [] p) ∨ ∃ c : Nat, s12 = .int .i64 (c : Int) ∧ s13 = .bool true ∧ KJ m ES S c 0 W bag p)
theorem pop_any {B D : Nat} {w3 wr : World} {KP : List RV} {m : Nat} {ES : List (Nat × Nat)} {S : List Nat} {own : Option Nat} {bag : List (Int × Int)} {p : Int} {W : Nat → Nat} {lv : Value} (h : OS B D w3 wr m W D own bag p lv (placed KP S)) (hk : KI m ES S W bag p) (hm : m ≤ 100000) :
    Calls Try.prog 24 #[.pointer (some ⟨D, 0, none⟩)] wr fun e w' => ∃ s12 s13, e = .returned (.tuple #[s12, s13]) ∧ L3 B D w3 KP m ES w' lv s12 s13 := by
  have hl := hk.len
  by_cases hb : bag = []
  · subst hb
    refine (hs_pop_none h.hs).mono ?_
    rintro e w' ⟨rfl, rfl⟩
    exact ⟨_, _, rfl, S, own, [], p, W, h, .inl ⟨rfl, hk⟩⟩
  · refine (hs_pop ordL befL h.hs (List.length_pos_iff.2 hb) (by omega)).mono ?_
    rintro e w' ⟨x, bag', rfl, h1, h2, h3, h4⟩
    obtain ⟨c, hc, hj⟩ := hk.pop h1 h2
    exact ⟨_, _, rfl, S, own, bag', p, W, h.heap h4 h3 (fun b hb => .inl hb), .inr ⟨c, by rw [hc], rfl, hj⟩⟩
/-- While the users of one are told. -/
def L4 (B D : Nat) (w3 : World) (KP : List RV) (m : Nat) (ES : List (Nat × Nat)) (S : List Nat) (c j : Nat) (lv : Value) (wr : World) : Prop :=
  ∃ own bag p W, OS B D w3 wr m W D own bag p lv (placed KP (S ++ [c])) ∧ KJ m ES S c j W bag p
theorem tell_push {B D : Nat} {w3 wr : World} {KP : List RV} {m : Nat} {ES : List (Nat × Nat)} {S : List Nat} {c j u : Nat} {own : Option Nat} {bag : List (Int × Int)} {p : Int} {W : Nat → Nat} {lv : Value} (h : OS B D w3 (wr.setCell ⟨B, u, none⟩ (.int .i64 ((W u - 1 : Nat) : Int))) m (upd W u (W u - 1)) D own bag p lv (placed KP (S ++ [c]))) (hk : KJ m ES S c j W bag p) (hu : (usersOf ES c)[j]? = some u) (hum : u < m) (h1 : W u = 1) (hm : m ≤ 100000) :
    Calls Try.prog 23 #[.pointer (some ⟨D, 0, none⟩), .int .i64 u] (wr.setCell ⟨B, u, none⟩ (.int .i64 ((W u - 1 : Nat) : Int))) fun e w' => e = .returned (.tuple #[]) ∧ L4 B D w3 KP m ES S c (j + 1) lv w' ∧ Keeps (fun b => b = D ∨ own = some b) (wr.setCell ⟨B, u, none⟩ (.int .i64 ((W u - 1 : Nat) : Int))) w' := by
  have hl := hk.len
  have hc := hk.cnt
  refine (hs_push ordL befL h.hs (u : Int) (by omega) (by rw [hc]; omega) (by rw [hc]; omega)).mono ?_
  rintro e w' ⟨rfl, own', h2, h3, h4⟩
  exact ⟨rfl, ⟨own', _, _, _, h.heap h3 h2 h4, (hk.tell hu hum).2.2 h1⟩, h3⟩
end Go.Proofs.Ytfpocoaddmgakaa
