/- The search of graph in memory: its box, four arrays and two lists; what each store leaves. Written by mkgs1.py. -/
import Derived.Test.YtfpocoaddmgakaaGrT
import Derived.Test.YtfpocoaddmgakaaRw
import Derived.Test.YtfpocoaddmgakaaHp1
namespace Go.Proofs.Ytfpocoaddmgakaa
open Go.RowKit
set_option linter.unusedVariables false
set_option linter.unusedSimpArgs false

/-- The cells of an array of n numbers. -/
def arr (n : Nat) (f : Nat → Int) : Array Value := ((List.range n).map fun i => Value.int .i64 (f i)).toArray
theorem arr_size (n : Nat) (f : Nat → Int) : (arr n f).size = n := by simp [arr]
theorem arr_get {n : Nat} {f : Nat → Int} {i : Nat} (h : i < n) : (arr n f)[i]? = some (.int .i64 (f i)) := by simp [arr, h]
theorem arr_set {n : Nat} {f : Nat → Int} {i : Nat} (x : Int) : (arr n f).setIfInBounds i (.int .i64 x) = arr n (upd f i x) := by
  apply Array.ext_getElem?
  intro j
  rw [Array.getElem?_setIfInBounds]
  by_cases hj : j < n
  · rw [arr_get hj, arr_get hj, arr_size]
    by_cases e : i = j
    · subst e; simp [hj, upd]
    · rw [if_neg e, upd_ne _ _ (fun h => e h.symm)]
  · have h1 : (arr n f)[j]? = none := by simp [arr]; omega
    have h2 : (arr n (upd f i x))[j]? = none := by simp [arr]; omega
    rw [h1, h2, arr_size]
    split
    · rw [if_neg (by omega)]
    · rfl
theorem arr_congr {n : Nat} {f g : Nat → Int} (h : ∀ i, i < n → f i = g i) : arr n f = arr n g := by
  unfold arr
  congr 1
  exact List.map_congr_left (fun i hi => by rw [h i (List.mem_range.1 hi)])
/-- A Nat's update, as an integer's. -/
theorem cast_upd (f : Nat → Nat) (v x : Nat) : (fun i => ((upd f v x i : Nat) : Int)) = upd (fun i => (f i : Int)) v (x : Int) := by
  funext i
  by_cases e : i = v
  · subst e; simp [upd_same]
  · simp [upd_ne _ _ e]
/-- A list with its top at the end. -/
def rl (l : List Nat) : List Value := l.reverse.map fun (x : Nat) => Value.int .i64 (x : Int)
theorem rl_cons (x : Nat) (l : List Nat) : rl (x :: l) = rl l ++ [.int .i64 (x : Int)] := by simp [rl]
theorem rl_len (l : List Nat) : (rl l).length = l.length := by simp [rl]
theorem rl_last (x : Nat) (l : List Nat) : (rl (x :: l))[l.length]? = some (.int .i64 (x : Int)) := by rw [rl_cons, List.getElem?_append_right (by rw [rl_len]; exact Nat.le_refl _), rl_len]; simp

/-- An array's slice. -/
abbrev sl (b n : Nat) : Value := .slice (some ⟨b, 0, none⟩) n n

structure SM (B : Nat) (w : World) (G : Nat) (ev : Value) (n bt bl bn bd : Nat) (pv ov : Value) (s : TS) : Prop where
  blk : w.heap[G]? = some (.cells #[ev, .int .i64 s.found, sl bt n, sl bl n, sl bn n, sl bd n, pv, ov] 45 (0, 0))
  t : w.heap[bt]? = some (.cells (arr n fun i => (s.turn i : Int)) 3 (0, 0))
  l : w.heap[bl]? = some (.cells (arr n fun i => (s.low i : Int)) 3 (0, 0))
  x : w.heap[bn]? = some (.cells (arr n fun i => (s.next i : Int)) 3 (0, 0))
  d : w.heap[bd]? = some (.cells (arr n s.lead) 3 (0, 0))
  p : w.ownsRow B 3 1 pv s.path.length (rl s.path)
  o : w.ownsRow B 3 1 ov s.opn.length (rl s.opn)
  ne : [G, bt, bl, bn, bd].Nodup
  base : ∀ b ∈ [G, bt, bl, bn, bd], B ≤ b
  pn : ∀ b, pv.ownBlock = some b → b ∉ [G, bt, bl, bn, bd]
  on : ∀ b, ov.ownBlock = some b → b ∉ [G, bt, bl, bn, bd]
  po : ∀ b, pv.ownBlock = some b → ov.ownBlock ≠ some b

section
variable {B : Nat} {w : World} {G : Nat} {ev : Value} {n bt bl bn bd : Nat} {pv ov : Value} {s : TS}
theorem SM.diff (h : SM B w G ev n bt bl bn bd pv ov s) : G ≠ bt ∧ G ≠ bl ∧ G ≠ bn ∧ G ≠ bd ∧ bt ≠ bl ∧ bt ≠ bn ∧ bt ≠ bd ∧ bl ≠ bn ∧ bl ≠ bd ∧ bn ≠ bd := by
  have := h.ne
  simp at this
  omega
theorem SM.lt (h : SM B w G ev n bt bl bn bd pv ov s) : G < w.heap.size ∧ bt < w.heap.size ∧ bl < w.heap.size ∧ bn < w.heap.size ∧ bd < w.heap.size :=
  ⟨(Array.getElem?_eq_some_iff.1 h.blk).1, (Array.getElem?_eq_some_iff.1 h.t).1, (Array.getElem?_eq_some_iff.1 h.l).1, (Array.getElem?_eq_some_iff.1 h.x).1, (Array.getElem?_eq_some_iff.1 h.d).1⟩
theorem SM.ge (h : SM B w G ev n bt bl bn bd pv ov s) : B ≤ G ∧ B ≤ bt ∧ B ≤ bl ∧ B ≤ bn ∧ B ≤ bd :=
  ⟨h.base _ (by simp), h.base _ (by simp), h.base _ (by simp), h.base _ (by simp), h.base _ (by simp)⟩
theorem SM.pne (h : SM B w G ev n bt bl bn bd pv ov s) {b : Nat} (e : pv.ownBlock = some b) : b ≠ G ∧ b ≠ bt ∧ b ≠ bl ∧ b ≠ bn ∧ b ≠ bd := by
  have := h.pn b e; simp at this; exact this
theorem SM.one (h : SM B w G ev n bt bl bn bd pv ov s) {b : Nat} (e : ov.ownBlock = some b) : b ≠ G ∧ b ≠ bt ∧ b ≠ bl ∧ b ≠ bn ∧ b ≠ bd := by
  have := h.on b e; simp at this; exact this
theorem SM.below {w' : World} (h : SM B w G ev n bt bl bn bd pv ov s) (hb : Below w.heap.size w w') : SM B w' G ev n bt bl bn bd pv ov s := by
  obtain ⟨l0, l1, l2, l3, l4⟩ := h.lt
  exact ⟨(hb.block _ l0).trans h.blk, (hb.block _ l1).trans h.t, (hb.block _ l2).trans h.l, (hb.block _ l3).trans h.x, (hb.block _ l4).trans h.d, owns_keeps (N := fun _ => False) h.p (Keeps.of_below hb) (fun _ _ h => h), owns_keeps (N := fun _ => False) h.o (Keeps.of_below hb) (fun _ _ h => h), h.ne, h.base, h.pn, h.on, h.po⟩
theorem SM.boxCell (h : SM B w G ev n bt bl bn bd pv ov s) : w.cell? ⟨G, 0, none⟩ = some ev ∧ w.cell? ⟨G, 1, none⟩ = some (.int .i64 s.found) ∧ w.cell? ⟨G, 2, none⟩ = some (sl bt n) ∧ w.cell? ⟨G, 3, none⟩ = some (sl bl n) ∧ w.cell? ⟨G, 4, none⟩ = some (sl bn n) ∧ w.cell? ⟨G, 5, none⟩ = some (sl bd n) ∧ w.cell? ⟨G, 6, none⟩ = some pv ∧ w.cell? ⟨G, 7, none⟩ = some ov ∧ ∀ k, w.frozen? ⟨G, k, none⟩ = false := by
  refine ⟨?_, ?_, ?_, ?_, ?_, ?_, ?_, ?_, fun k => frozen_of_row w G k _ _ h.blk⟩ <;> (rw [cell_of_row w G _ _ 45 (0, 0) h.blk]; rfl)
theorem SM.pform (h : SM B w G ev n bt bl bn bd pv ov s) : ∃ a c, pv = .slice a s.path.length c ∧ s.path.length ≤ c := by
  rcases h.p.2 with ⟨rfl, h0⟩ | ⟨r, cap, cur, rfl, _, _, h1, _⟩
  · rw [h0]; exact ⟨_, _, rfl, Nat.le_refl _⟩
  · exact ⟨_, _, rfl, h1⟩
theorem SM.oform (h : SM B w G ev n bt bl bn bd pv ov s) : ∃ a c, ov = .slice a s.opn.length c ∧ s.opn.length ≤ c := by
  rcases h.o.2 with ⟨rfl, h0⟩ | ⟨r, cap, cur, rfl, _, _, h1, _⟩
  · rw [h0]; exact ⟨_, _, rfl, Nat.le_refl _⟩
  · exact ⟨_, _, rfl, h1⟩
/-- The last node of the path. -/
theorem SM.ptop (h : SM B w G ev n bt bl bn bd pv ov s) {v : Nat} {q : List Nat} (e : s.path = v :: q) : ∃ r c, pv = .slice (some ⟨r, 0, none⟩) (q.length + 1) c ∧ q.length + 1 ≤ c ∧ w.cell? ⟨r, q.length, none⟩ = some (.int .i64 (v : Int)) := by
  have hp := h.p
  rw [e] at hp
  rcases hp.2 with ⟨_, h0⟩ | ⟨r, cap, cur, rfl, _, _, h1, _⟩
  · simp at h0
  · refine ⟨r, cap, rfl, h1, ?_⟩
    rw [hp.cellAt q.length (by simp), rl_last]
theorem SM.otop (h : SM B w G ev n bt bl bn bd pv ov s) {v : Nat} {q : List Nat} (e : s.opn = v :: q) : ∃ r c, ov = .slice (some ⟨r, 0, none⟩) (q.length + 1) c ∧ q.length + 1 ≤ c ∧ w.cell? ⟨r, q.length, none⟩ = some (.int .i64 (v : Int)) := by
  have hp := h.o
  rw [e] at hp
  rcases hp.2 with ⟨_, h0⟩ | ⟨r, cap, cur, rfl, _, _, h1, _⟩
  · simp at h0
  · refine ⟨r, cap, rfl, h1, ?_⟩
    rw [hp.cellAt q.length (by simp), rl_last]

theorem SM.turnAt (h : SM B w G ev n bt bl bn bd pv ov s) {v : Nat} (hv : v < n) : w.cell? ⟨bt, v, none⟩ = some (.int .i64 ((s.turn v : Int))) ∧ w.frozen? ⟨bt, v, none⟩ = false :=
  ⟨by rw [cell_of_row w bt v _ 3 (0, 0) h.t, arr_get hv], frozen_of_row w bt v _ _ h.t⟩
theorem SM.turnSet (h : SM B w G ev n bt bl bn bd pv ov s) (v : Nat) (x : Nat) : SM B (w.setCell ⟨bt, v, none⟩ (.int .i64 (x : Int))) G ev n bt bl bn bd pv ov { s with turn := upd s.turn v x } ∧ Below B w (w.setCell ⟨bt, v, none⟩ (.int .i64 (x : Int))) := by
  have hd := h.diff
  have k : Keeps (fun b => b = bt) w (w.setCell ⟨bt, v, none⟩ (.int .i64 (x : Int))) := (Keeps.refl (fun b => b = bt) w).setCell (p := ⟨bt, v, none⟩) rfl _
  exact ⟨⟨(heap_setCell_other w ⟨bt, v, none⟩ G _ (by show G ≠ bt; omega)).trans h.blk, by show (w.setCell ⟨bt, v, none⟩ (.int .i64 (x : Int))).heap[bt]? = some (.cells (arr n fun i => ((upd s.turn v x i : Nat) : Int)) 3 (0, 0)); rw [cast_upd, heap_setCell_same w bt v _ 3 _ h.t, arr_set], (heap_setCell_other w ⟨bt, v, none⟩ bl _ (by show bl ≠ bt; omega)).trans h.l, (heap_setCell_other w ⟨bt, v, none⟩ bn _ (by show bn ≠ bt; omega)).trans h.x, (heap_setCell_other w ⟨bt, v, none⟩ bd _ (by show bd ≠ bt; omega)).trans h.d, owns_keeps h.p k (fun c hc e => by have := h.pne hc; omega), owns_keeps h.o k (fun c hc e => by have := h.one hc; omega), h.ne, h.base, h.pn, h.on, h.po⟩,
    (Below.refl B w).setCell (p := ⟨bt, v, none⟩) (by have := h.ge; show B ≤ bt; omega) _⟩
theorem SM.lowAt (h : SM B w G ev n bt bl bn bd pv ov s) {v : Nat} (hv : v < n) : w.cell? ⟨bl, v, none⟩ = some (.int .i64 ((s.low v : Int))) ∧ w.frozen? ⟨bl, v, none⟩ = false :=
  ⟨by rw [cell_of_row w bl v _ 3 (0, 0) h.l, arr_get hv], frozen_of_row w bl v _ _ h.l⟩
theorem SM.lowSet (h : SM B w G ev n bt bl bn bd pv ov s) (v : Nat) (x : Nat) : SM B (w.setCell ⟨bl, v, none⟩ (.int .i64 (x : Int))) G ev n bt bl bn bd pv ov { s with low := upd s.low v x } ∧ Below B w (w.setCell ⟨bl, v, none⟩ (.int .i64 (x : Int))) := by
  have hd := h.diff
  have k : Keeps (fun b => b = bl) w (w.setCell ⟨bl, v, none⟩ (.int .i64 (x : Int))) := (Keeps.refl (fun b => b = bl) w).setCell (p := ⟨bl, v, none⟩) rfl _
  exact ⟨⟨(heap_setCell_other w ⟨bl, v, none⟩ G _ (by show G ≠ bl; omega)).trans h.blk, (heap_setCell_other w ⟨bl, v, none⟩ bt _ (by show bt ≠ bl; omega)).trans h.t, by show (w.setCell ⟨bl, v, none⟩ (.int .i64 (x : Int))).heap[bl]? = some (.cells (arr n fun i => ((upd s.low v x i : Nat) : Int)) 3 (0, 0)); rw [cast_upd, heap_setCell_same w bl v _ 3 _ h.l, arr_set], (heap_setCell_other w ⟨bl, v, none⟩ bn _ (by show bn ≠ bl; omega)).trans h.x, (heap_setCell_other w ⟨bl, v, none⟩ bd _ (by show bd ≠ bl; omega)).trans h.d, owns_keeps h.p k (fun c hc e => by have := h.pne hc; omega), owns_keeps h.o k (fun c hc e => by have := h.one hc; omega), h.ne, h.base, h.pn, h.on, h.po⟩,
    (Below.refl B w).setCell (p := ⟨bl, v, none⟩) (by have := h.ge; show B ≤ bl; omega) _⟩
theorem SM.nextAt (h : SM B w G ev n bt bl bn bd pv ov s) {v : Nat} (hv : v < n) : w.cell? ⟨bn, v, none⟩ = some (.int .i64 ((s.next v : Int))) ∧ w.frozen? ⟨bn, v, none⟩ = false :=
  ⟨by rw [cell_of_row w bn v _ 3 (0, 0) h.x, arr_get hv], frozen_of_row w bn v _ _ h.x⟩
theorem SM.nextSet (h : SM B w G ev n bt bl bn bd pv ov s) (v : Nat) (x : Nat) : SM B (w.setCell ⟨bn, v, none⟩ (.int .i64 (x : Int))) G ev n bt bl bn bd pv ov { s with next := upd s.next v x } ∧ Below B w (w.setCell ⟨bn, v, none⟩ (.int .i64 (x : Int))) := by
  have hd := h.diff
  have k : Keeps (fun b => b = bn) w (w.setCell ⟨bn, v, none⟩ (.int .i64 (x : Int))) := (Keeps.refl (fun b => b = bn) w).setCell (p := ⟨bn, v, none⟩) rfl _
  exact ⟨⟨(heap_setCell_other w ⟨bn, v, none⟩ G _ (by show G ≠ bn; omega)).trans h.blk, (heap_setCell_other w ⟨bn, v, none⟩ bt _ (by show bt ≠ bn; omega)).trans h.t, (heap_setCell_other w ⟨bn, v, none⟩ bl _ (by show bl ≠ bn; omega)).trans h.l, by show (w.setCell ⟨bn, v, none⟩ (.int .i64 (x : Int))).heap[bn]? = some (.cells (arr n fun i => ((upd s.next v x i : Nat) : Int)) 3 (0, 0)); rw [cast_upd, heap_setCell_same w bn v _ 3 _ h.x, arr_set], (heap_setCell_other w ⟨bn, v, none⟩ bd _ (by show bd ≠ bn; omega)).trans h.d, owns_keeps h.p k (fun c hc e => by have := h.pne hc; omega), owns_keeps h.o k (fun c hc e => by have := h.one hc; omega), h.ne, h.base, h.pn, h.on, h.po⟩,
    (Below.refl B w).setCell (p := ⟨bn, v, none⟩) (by have := h.ge; show B ≤ bn; omega) _⟩
theorem SM.leadAt (h : SM B w G ev n bt bl bn bd pv ov s) {v : Nat} (hv : v < n) : w.cell? ⟨bd, v, none⟩ = some (.int .i64 (s.lead v)) ∧ w.frozen? ⟨bd, v, none⟩ = false :=
  ⟨by rw [cell_of_row w bd v _ 3 (0, 0) h.d, arr_get hv], frozen_of_row w bd v _ _ h.d⟩
theorem SM.leadSet (h : SM B w G ev n bt bl bn bd pv ov s) (v : Nat) (x : Int) : SM B (w.setCell ⟨bd, v, none⟩ (.int .i64 x)) G ev n bt bl bn bd pv ov { s with lead := upd s.lead v x } ∧ Below B w (w.setCell ⟨bd, v, none⟩ (.int .i64 x)) := by
  have hd := h.diff
  have k : Keeps (fun b => b = bd) w (w.setCell ⟨bd, v, none⟩ (.int .i64 x)) := (Keeps.refl (fun b => b = bd) w).setCell (p := ⟨bd, v, none⟩) rfl _
  exact ⟨⟨(heap_setCell_other w ⟨bd, v, none⟩ G _ (by show G ≠ bd; omega)).trans h.blk, (heap_setCell_other w ⟨bd, v, none⟩ bt _ (by show bt ≠ bd; omega)).trans h.t, (heap_setCell_other w ⟨bd, v, none⟩ bl _ (by show bl ≠ bd; omega)).trans h.l, (heap_setCell_other w ⟨bd, v, none⟩ bn _ (by show bn ≠ bd; omega)).trans h.x, by show (w.setCell ⟨bd, v, none⟩ (.int .i64 x)).heap[bd]? = some (.cells (arr n (upd s.lead v x)) 3 (0, 0)); rw [heap_setCell_same w bd v _ 3 _ h.d, arr_set], owns_keeps h.p k (fun c hc e => by have := h.pne hc; omega), owns_keeps h.o k (fun c hc e => by have := h.one hc; omega), h.ne, h.base, h.pn, h.on, h.po⟩,
    (Below.refl B w).setCell (p := ⟨bd, v, none⟩) (by have := h.ge; show B ≤ bd; omega) _⟩
theorem SM.boxKeeps (h : SM B w G ev n bt bl bn bd pv ov s) (k : Nat) (u : Value) : Keeps (fun b => b = G) w (w.setCell ⟨G, k, none⟩ u) := (Keeps.refl (fun b => b = G) w).setCell (p := ⟨G, k, none⟩) rfl _
theorem SM.foundSet (h : SM B w G ev n bt bl bn bd pv ov s) (x : Nat) : SM B (w.setCell ⟨G, 1, none⟩ (.int .i64 (x : Int))) G ev n bt bl bn bd pv ov { s with found := x } ∧ Below B w (w.setCell ⟨G, 1, none⟩ (.int .i64 (x : Int))) := by
  have hd := h.diff
  have k := h.boxKeeps 1 (.int .i64 (x : Int))
  exact ⟨⟨by rw [heap_setCell_same w G 1 _ 45 _ h.blk]; rfl, (heap_setCell_other w ⟨G, 1, none⟩ bt _ (by show bt ≠ G; omega)).trans h.t, (heap_setCell_other w ⟨G, 1, none⟩ bl _ (by show bl ≠ G; omega)).trans h.l, (heap_setCell_other w ⟨G, 1, none⟩ bn _ (by show bn ≠ G; omega)).trans h.x, (heap_setCell_other w ⟨G, 1, none⟩ bd _ (by show bd ≠ G; omega)).trans h.d, owns_keeps h.p k (fun c hc e => by have := h.pne hc; omega), owns_keeps h.o k (fun c hc e => by have := h.one hc; omega), h.ne, h.base, h.pn, h.on, h.po⟩,
    (Below.refl B w).setCell (p := ⟨G, 1, none⟩) (by have := h.ge; show B ≤ G; omega) _⟩
/-- A shorter row of the same block. -/
theorem owns_shorter {w : World} {B : Nat} {g c : Nat} {x : Nat} {q : List Nat} (h : w.ownsRow B 3 1 (.slice (some ⟨g, 0, none⟩) (q.length + 1) c) (q.length + 1) (rl (x :: q))) : w.ownsRow B 3 1 (.slice (some ⟨g, 0, none⟩) q.length c) q.length (rl q) := by
  rcases h.2 with ⟨h', _⟩ | ⟨g', cap', cur, h', hb, hg, hnc, hcm, hcs, ht⟩
  · cases h'
  · simp only [Value.slice.injEq, Option.some.injEq, Addr.mk.injEq, and_true, true_and] at h'
    obtain ⟨rfl, rfl⟩ := h'
    refine ⟨by simp [rl_len], .inr ⟨g, c, cur, rfl, hb, hg, by omega, hcm, hcs, ?_⟩⟩
    have e : (cur.toList.take ((q.length + 1) * 1)).take (q.length * 1) = (rl (x :: q)).take (q.length * 1) := by rw [ht]
    have e2 : (rl (x :: q)).take (q.length * 1) = rl q := by rw [rl_cons, List.take_append_of_le_length (by rw [rl_len]; omega), List.take_of_length_le (by rw [rl_len]; omega)]
    rw [List.take_take, Nat.min_eq_left (by omega), e2] at e
    exact e
theorem SM.pathDrop {r c x : Nat} {q : List Nat} (h : SM B w G ev n bt bl bn bd (.slice (some ⟨r, 0, none⟩) (q.length + 1) c) ov s) (e : s.path = x :: q) : SM B (w.setCell ⟨G, 6, none⟩ (.slice (some ⟨r, 0, none⟩) q.length c)) G ev n bt bl bn bd (.slice (some ⟨r, 0, none⟩) q.length c) ov { s with path := q } ∧ Below B w (w.setCell ⟨G, 6, none⟩ (.slice (some ⟨r, 0, none⟩) q.length c)) := by
  have hd := h.diff
  have k := h.boxKeeps 6 (.slice (some ⟨r, 0, none⟩) q.length c)
  exact ⟨⟨by rw [heap_setCell_same w G 6 _ 45 _ h.blk]; rfl, (heap_setCell_other w ⟨G, 6, none⟩ bt _ (by show bt ≠ G; omega)).trans h.t, (heap_setCell_other w ⟨G, 6, none⟩ bl _ (by show bl ≠ G; omega)).trans h.l, (heap_setCell_other w ⟨G, 6, none⟩ bn _ (by show bn ≠ G; omega)).trans h.x, (heap_setCell_other w ⟨G, 6, none⟩ bd _ (by show bd ≠ G; omega)).trans h.d, owns_keeps (owns_shorter (x := x) (by have := h.p; rw [e] at this; exact this)) k (fun b hb e => by have := h.pne (b := b) hb; omega), owns_keeps h.o k (fun b hb e => by have := h.one hb; omega), h.ne, h.base, h.pn, h.on, h.po⟩,
    (Below.refl B w).setCell (p := ⟨G, 6, none⟩) (by have := h.ge; show B ≤ G; omega) _⟩
theorem SM.pathPush {w1 : World} {o : Obj} {v' : Value} {x : Nat} (h : SM B w G ev n bt bl bn bd pv ov s) (hB : B ≤ w.heap.size) (hown : w1.ownsRow B 3 1 v' (s.path.length + 1) (rl s.path ++ [.int .i64 (x : Int)])) (hgrow : (w.alloc o).grownBy w1 pv.ownBlock) (hat : v'.ownBlock = pv.ownBlock ∨ v'.ownBlock = some (w.heap.size + 1)) :
    SM B (w1.setCell ⟨G, 6, none⟩ v') G ev n bt bl bn bd v' ov { s with path := x :: s.path } ∧ Below B w (w1.setCell ⟨G, 6, none⟩ v') ∧ (∃ a c, v' = .slice a (s.path.length + 1) c) := by
  have hd := h.diff
  have hl := h.lt
  have hg := h.ge
  have k1 : Keeps (fun b => pv.ownBlock = some b) w w1 := ((Keeps.refl (fun b => pv.ownBlock = some b) w).alloc o).trans (Keeps.of_grown hgrow (fun b hb => hb))
  have k2 : Keeps (fun b => b = G) w1 (w1.setCell ⟨G, 6, none⟩ v') := (Keeps.refl (fun b => b = G) w1).setCell (p := ⟨G, 6, none⟩) rfl v'
  have old : ∀ b, pv.ownBlock = some b → b < w.heap.size := fun b hb => (h.p.lt b hb).2
  have oldo : ∀ b, ov.ownBlock = some b → b < w.heap.size := fun b hb => (h.o.lt b hb).2
  have hnew : ∀ b, v'.ownBlock = some b → b ≠ G ∧ b ≠ bt ∧ b ≠ bl ∧ b ≠ bn ∧ b ≠ bd ∧ ov.ownBlock ≠ some b := fun b hb => by
    rcases hat with e | e
    · rw [e] at hb
      have h1 := h.pne hb
      refine ⟨h1.1, h1.2.1, h1.2.2.1, h1.2.2.2.1, h1.2.2.2.2, ?_⟩
      exact h.po b hb
    · rw [e] at hb
      simp at hb
      refine ⟨by omega, by omega, by omega, by omega, by omega, fun e2 => ?_⟩
      have := oldo b e2; omega
  have b1 : ∀ g, g < w.heap.size → ¬ pv.ownBlock = some g → g ≠ G → (w1.setCell ⟨G, 6, none⟩ v').heap[g]? = w.heap[g]? := fun g hg hn hne => (heap_setCell_other w1 ⟨G, 6, none⟩ g v' hne).trans (k1.block g hg hn)
  refine ⟨⟨by rw [heap_setCell_same w1 G 6 _ 45 v' ((k1.block G hl.1 (fun e => (h.pne e).1 rfl)).trans h.blk)]; rfl, (b1 bt hl.2.1 (fun e => (h.pne e).2.1 rfl) (by omega)).trans h.t, (b1 bl hl.2.2.1 (fun e => (h.pne e).2.2.1 rfl) (by omega)).trans h.l, (b1 bn hl.2.2.2.1 (fun e => (h.pne e).2.2.2.1 rfl) (by omega)).trans h.x, (b1 bd hl.2.2.2.2 (fun e => (h.pne e).2.2.2.2 rfl) (by omega)).trans h.d, ?_, ?_, h.ne, h.base, ?_, h.on, ?_⟩, ?_, ?_⟩
  · show (w1.setCell _ v').ownsRow B 3 1 v' (x :: s.path).length (rl (x :: s.path))
    rw [rl_cons]
    exact owns_keeps hown k2 (fun b hb e => (hnew b hb).1 e)
  · exact owns_keeps (owns_keeps h.o k1 (fun b hb e => h.po b e hb)) k2 (fun b hb e => (h.one hb).1 e)
  · intro b hb; have := hnew b hb; simp; omega
  · intro b hb; exact (hnew b hb).2.2.2.2.2
  · exact (k1.below hB (fun b hb => (h.p.lt b hb).1)).setCell (p := ⟨G, 6, none⟩) hg.1 v'
  · rcases hown.2 with ⟨e1, e2⟩ | ⟨g, cap, _, e1, _⟩
    · exact ⟨none, 0, by rw [e2]; exact e1⟩
    · exact ⟨_, cap, e1⟩
theorem SM.opnDrop {r c x : Nat} {q : List Nat} (h : SM B w G ev n bt bl bn bd pv (.slice (some ⟨r, 0, none⟩) (q.length + 1) c) s) (e : s.opn = x :: q) : SM B (w.setCell ⟨G, 7, none⟩ (.slice (some ⟨r, 0, none⟩) q.length c)) G ev n bt bl bn bd pv (.slice (some ⟨r, 0, none⟩) q.length c) { s with opn := q } ∧ Below B w (w.setCell ⟨G, 7, none⟩ (.slice (some ⟨r, 0, none⟩) q.length c)) := by
  have hd := h.diff
  have k := h.boxKeeps 7 (.slice (some ⟨r, 0, none⟩) q.length c)
  exact ⟨⟨by rw [heap_setCell_same w G 7 _ 45 _ h.blk]; rfl, (heap_setCell_other w ⟨G, 7, none⟩ bt _ (by show bt ≠ G; omega)).trans h.t, (heap_setCell_other w ⟨G, 7, none⟩ bl _ (by show bl ≠ G; omega)).trans h.l, (heap_setCell_other w ⟨G, 7, none⟩ bn _ (by show bn ≠ G; omega)).trans h.x, (heap_setCell_other w ⟨G, 7, none⟩ bd _ (by show bd ≠ G; omega)).trans h.d, owns_keeps h.p k (fun b hb e => by have := h.pne hb; omega), owns_keeps (owns_shorter (x := x) (by have := h.o; rw [e] at this; exact this)) k (fun b hb e => by have := h.one (b := b) hb; omega), h.ne, h.base, h.pn, h.on, h.po⟩,
    (Below.refl B w).setCell (p := ⟨G, 7, none⟩) (by have := h.ge; show B ≤ G; omega) _⟩
theorem SM.opnPush {w1 : World} {o : Obj} {v' : Value} {x : Nat} (h : SM B w G ev n bt bl bn bd pv ov s) (hB : B ≤ w.heap.size) (hown : w1.ownsRow B 3 1 v' (s.opn.length + 1) (rl s.opn ++ [.int .i64 (x : Int)])) (hgrow : (w.alloc o).grownBy w1 ov.ownBlock) (hat : v'.ownBlock = ov.ownBlock ∨ v'.ownBlock = some (w.heap.size + 1)) :
    SM B (w1.setCell ⟨G, 7, none⟩ v') G ev n bt bl bn bd pv v' { s with opn := x :: s.opn } ∧ Below B w (w1.setCell ⟨G, 7, none⟩ v') ∧ (∃ a c, v' = .slice a (s.opn.length + 1) c) := by
  have hd := h.diff
  have hl := h.lt
  have hg := h.ge
  have k1 : Keeps (fun b => ov.ownBlock = some b) w w1 := ((Keeps.refl (fun b => ov.ownBlock = some b) w).alloc o).trans (Keeps.of_grown hgrow (fun b hb => hb))
  have k2 : Keeps (fun b => b = G) w1 (w1.setCell ⟨G, 7, none⟩ v') := (Keeps.refl (fun b => b = G) w1).setCell (p := ⟨G, 7, none⟩) rfl v'
  have old : ∀ b, ov.ownBlock = some b → b < w.heap.size := fun b hb => (h.o.lt b hb).2
  have oldo : ∀ b, pv.ownBlock = some b → b < w.heap.size := fun b hb => (h.p.lt b hb).2
  have hnew : ∀ b, v'.ownBlock = some b → b ≠ G ∧ b ≠ bt ∧ b ≠ bl ∧ b ≠ bn ∧ b ≠ bd ∧ pv.ownBlock ≠ some b := fun b hb => by
    rcases hat with e | e
    · rw [e] at hb
      have h1 := h.one hb
      refine ⟨h1.1, h1.2.1, h1.2.2.1, h1.2.2.2.1, h1.2.2.2.2, ?_⟩
      exact fun e => h.po b e hb
    · rw [e] at hb
      simp at hb
      refine ⟨by omega, by omega, by omega, by omega, by omega, fun e2 => ?_⟩
      have := oldo b e2; omega
  have b1 : ∀ g, g < w.heap.size → ¬ ov.ownBlock = some g → g ≠ G → (w1.setCell ⟨G, 7, none⟩ v').heap[g]? = w.heap[g]? := fun g hg hn hne => (heap_setCell_other w1 ⟨G, 7, none⟩ g v' hne).trans (k1.block g hg hn)
  refine ⟨⟨by rw [heap_setCell_same w1 G 7 _ 45 v' ((k1.block G hl.1 (fun e => (h.one e).1 rfl)).trans h.blk)]; rfl, (b1 bt hl.2.1 (fun e => (h.one e).2.1 rfl) (by omega)).trans h.t, (b1 bl hl.2.2.1 (fun e => (h.one e).2.2.1 rfl) (by omega)).trans h.l, (b1 bn hl.2.2.2.1 (fun e => (h.one e).2.2.2.1 rfl) (by omega)).trans h.x, (b1 bd hl.2.2.2.2 (fun e => (h.one e).2.2.2.2 rfl) (by omega)).trans h.d, ?_, ?_, h.ne, h.base, h.pn, ?_, ?_⟩, ?_, ?_⟩
  · exact owns_keeps (owns_keeps h.p k1 (fun b hb e => h.po b hb e)) k2 (fun b hb e => (h.pne hb).1 e)
  · show (w1.setCell _ v').ownsRow B 3 1 v' (x :: s.opn).length (rl (x :: s.opn))
    rw [rl_cons]
    exact owns_keeps hown k2 (fun b hb e => (hnew b hb).1 e)
  · intro b hb; have := hnew b hb; simp; omega
  · intro b hb e; exact (hnew b e).2.2.2.2.2 hb
  · exact (k1.below hB (fun b hb => (h.o.lt b hb).1)).setCell (p := ⟨G, 7, none⟩) hg.1 v'
  · rcases hown.2 with ⟨e1, e2⟩ | ⟨g, cap, _, e1, _⟩
    · exact ⟨none, 0, by rw [e2]; exact e1⟩
    · exact ⟨_, cap, e1⟩
theorem SM.drew (h : SM B w G ev n bt bl bn bd pv ov s) : SM B w.drew G ev n bt bl bn bd pv ov s := ⟨h.blk, h.t, h.l, h.x, h.d, h.p, h.o, h.ne, h.base, h.pn, h.on, h.po⟩
theorem below_drew {B : Nat} {a w : World} (h : Below B a w) : Below B a w.drew := h.trans ⟨rfl, rfl, rfl, Nat.le_refl _, fun _ _ => rfl⟩
end
end Go.Proofs.Ytfpocoaddmgakaa
