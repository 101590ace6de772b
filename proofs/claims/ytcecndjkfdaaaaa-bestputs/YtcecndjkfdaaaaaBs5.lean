/- best in memory: what its blocks hold. -/
import Derived.Test.YtcecndjkfdaaaaaBs4
import Derived.Maps.OwnSet
import Derived.Maps.OwnOps
import Derived.Maps.AppendAt
import Derived.Laws.CopyOwn
import Derived.Deep.DeepCutAuto
namespace Go.Proofs.Ytcecndjkfdaaaaa
open Go.RowKit Go.Maps
set_option linter.unusedVariables false
set_option linter.unusedSimpArgs false

abbrev key (s : ByteArray) : Lit := .string s.data.toList
theorem key_ne {s t : ByteArray} (h : s ≠ t) : key s ≠ key t := by
  intro e
  apply h
  simp only [key, Lit.string.injEq] at e
  cases s; cases t; simp only [ByteArray.mk.injEq]; exact Array.toList_inj.1 e
theorem law : Keyed Try.prog 9 := string_keyed Try.underlying9
theorem zeroE (w : World) : (zeroValue 3).run Try.prog w = .ok (.int .i64 0) w := by kernel_rfl

/-- The texts' places. -/
def mem : List ByteArray → ByteArray → Bool
  | [], _ => false
  | t :: ts, s => decide (t = s) || mem ts s
def place : List ByteArray → ByteArray → Nat
  | [], _ => 0
  | t :: ts, s => if t = s then 0 else place ts s + 1
def placeOr0 (ts : List ByteArray) (s : ByteArray) : Int := if mem ts s = true then (place ts s : Int) else 0
def placeI (ts : List ByteArray) (s : ByteArray) : Int := if mem ts s = true then (place ts s : Int) else -1

theorem mem_snoc (ts : List ByteArray) (t s : ByteArray) : mem (ts ++ [t]) s = (mem ts s || decide (t = s)) := by
  induction ts with
  | nil => simp [mem]
  | cons x ts ih => simp [mem, ih, Bool.or_assoc]
theorem place_snoc_in {ts : List ByteArray} {t s : ByteArray} (h : mem ts s = true) : place (ts ++ [t]) s = place ts s := by
  induction ts with
  | nil => simp [mem] at h
  | cons x ts ih =>
    simp only [List.cons_append, place]
    by_cases e : x = s
    · simp [e]
    · simp only [mem, e, decide_false, Bool.false_or] at h; simp [e, ih h]
theorem place_snoc_new {ts : List ByteArray} {s : ByteArray} (h : mem ts s = false) : place (ts ++ [s]) s = ts.length := by
  induction ts with
  | nil => simp [place]
  | cons x ts ih =>
    simp only [mem, Bool.or_eq_false_iff, decide_eq_false_iff_not] at h
    simp only [List.cons_append, place, h.1, if_false, ih h.2, List.length_cons]
theorem place_lt {ts : List ByteArray} {s : ByteArray} (h : mem ts s = true) : place ts s < ts.length := by
  induction ts with
  | nil => simp [mem] at h
  | cons x ts ih =>
    simp only [place, List.length_cons]
    by_cases e : x = s
    · simp [e]
    · simp only [mem, e, decide_false, Bool.false_or] at h; simp only [e, if_false]; have := ih h; omega

/-- What stands at a text in the map: its place in ts. -/
def MapReads (D : DataW Unit) (ts : List ByteArray) : Prop :=
  IsMap D ∧ ∀ s : ByteArray, has D (key s) = mem ts s ∧ D.atKey (key s) (.lit (.int .i64 0)) = .lit (.int .i64 (placeOr0 ts s))

theorem mapReads_nil : MapReads (.map []) [] := ⟨isMap_empty, fun s => ⟨by simp [has, mem], by simp [DataW.atKey, placeOr0, mem]⟩⟩
theorem MapReads.put {D : DataW Unit} {ts : List ByteArray} (h : MapReads D ts) {s : ByteArray} (hs : mem ts s = false) : MapReads (D.put (key s) (.lit (.int .i64 ts.length))) (ts ++ [s]) := by
  refine ⟨h.1.put _ _, fun t => ?_⟩
  by_cases e : t = s
  · subst e
    refine ⟨by rw [has_put_same h.1 (show WideAt.IsKeyLit (key t) from True.intro), mem_snoc]; simp, ?_⟩
    rw [atKey_put_same h.1 (show WideAt.IsKeyLit (key t) from True.intro)]
    simp [placeOr0, mem_snoc, place_snoc_new hs]
  · have e' : ¬ s = t := fun h => e h.symm
    refine ⟨by rw [has_put_other (key_ne e), (h.2 t).1, mem_snoc]; simp [e'], ?_⟩
    rw [atKey_put_other (key_ne e), (h.2 t).2]
    unfold placeOr0
    rw [mem_snoc]
    simp only [e', decide_false, Bool.or_false]
    by_cases ht : mem ts t = true
    · rw [if_pos ht, if_pos ht, place_snoc_in ht]
    · rw [if_neg ht, if_neg ht]

theorem ret_find {a b : Int} {x y : Bool} (h : a = b) (hx : x = y) : Ending.returned (.tuple #[.int .i64 a, .bool x]) = .returned (.tuple #[.int .i64 b, .bool y]) := by rw [h, hx]
theorem lit_inj {a b : Int} (h : (DataW.lit (Lit.int .i64 a) : DataW Unit) = .lit (.int .i64 b)) : a = b := by simpa using h
/-- The texts of the keys. -/
def textsE (es : List Ent) : List ByteArray := es.map fun e => keyText e.1
theorem mem_ts {es : List Ent} (hr : ∀ e ∈ es, InRange e.1) {k : List Int} (hk : InRange k) : mem (textsE es) (keyText k) = (lookE es k).isSome := by
  unfold textsE
  induction es with
  | nil => rfl
  | cons e es ih =>
    have h1 := ih (fun x hx => hr x (List.mem_cons_of_mem _ hx))
    simp only [List.map_cons, mem, lookE]
    by_cases h : e.1 = k
    · simp [h]
    · have : ¬ keyText e.1 = keyText k := fun e2 => h (keyText_inj (hr e (List.mem_cons_self ..)) hk e2)
      simp [h, this, h1]
theorem place_ts {es : List Ent} (hr : ∀ e ∈ es, InRange e.1) {k : List Int} (hk : InRange k) : place (textsE es) (keyText k) = spotE es k := by
  unfold textsE
  induction es with
  | nil => rfl
  | cons e es ih =>
    have h1 := ih (fun x hx => hr x (List.mem_cons_of_mem _ hx))
    simp only [List.map_cons, place, spotE]
    by_cases h : e.1 = k
    · simp [h]
    · have : ¬ keyText e.1 = keyText k := fun e2 => h (keyText_inj (hr e (List.mem_cons_self ..)) hk e2)
      simp [h, this, h1]
theorem keyText_size {k : List Int} (h : k.length ≤ 1000) : (keyText k).size ≤ maxLen := by
  unfold keyText
  have : (strOfNums (bytesK k)).size = (bytesK k).length := by
    have := congrArg List.length (strOfNums_data (bytesK k))
    simpa using this
  rw [this, bytesK_len]; unfold maxLen; omega
theorem own_ne_cells {w : World} {base : Nat} {t t' : TypeId} {k n : Nat} {v : Value} {xs : List Value} (h : w.ownsRow base t k v n xs) {g : Nat} {cs : Array Value} {fr : Nat × Nat} (hg : w.heap[g]? = some (.cells cs t' fr)) (ht : t ≠ t') : v.ownBlock ≠ some g := by
  intro e
  rcases h.2 with ⟨rfl, _⟩ | ⟨r, cap, cur, rfl, _, hr, _⟩
  · simp [Value.ownBlock] at e
  · simp only [Value.ownBlock, Option.some.injEq] at e
    subst e
    rw [hg] at hr
    simp only [Option.some.injEq, Obj.cells.injEq] at hr
    exact ht hr.2.1.symm
theorem own_ne_map {w : World} {base : Nat} {t : TypeId} {k n m : Nat} {v : Value} {xs : List Value} {R : Value → Option (DataW Unit × List MemPlace)} {D : DataW Unit} (h : w.ownsRow base t k v n xs) {b : Nat} {kt : TypeId} (hb : w.ownsMap Try.prog kt R b m D) : v.ownBlock ≠ some b := by
  intro e
  obtain ⟨es, cl, hb, _⟩ := hb
  rcases h.2 with ⟨rfl, _⟩ | ⟨r, cap, cur, rfl, _, hr, _⟩
  · simp [Value.ownBlock] at e
  · simp only [Value.ownBlock, Option.some.injEq] at e
    subst e; rw [hb] at hr; simp at hr
theorem cells_ne_map {w : World} {m g b : Nat} {cs : Array Value} {t : TypeId} {fr : Nat × Nat} {R : Value → Option (DataW Unit × List MemPlace)} {D : DataW Unit} {kt : TypeId} (hg : w.heap[g]? = some (.cells cs t fr)) (hb : w.ownsMap Try.prog kt R b m D) : g ≠ b := by
  intro e
  obtain ⟨es, cl, hb, _⟩ := hb
  subst e; rw [hg] at hb; simp at hb
theorem own_ne_own {w : World} {B B' : Nat} {t t' : TypeId} {k k' n n' : Nat} {v v' : Value} {xs xs' : List Value} (h : w.ownsRow B t k v n xs) (h' : w.ownsRow B' t' k' v' n' xs') (ht : t ≠ t') : ∀ b, v.ownBlock = some b → v'.ownBlock ≠ some b := by
  intro b e
  rcases h.2 with ⟨rfl, _⟩ | ⟨r, cap, cur, rfl, _, hr, _⟩
  · simp [Value.ownBlock] at e
  · simp only [Value.ownBlock, Option.some.injEq] at e
    subst e
    exact own_ne_cells h' hr (Ne.symm ht)
theorem map_keeps {N : Nat → Prop} {w w' : World} {kt : TypeId} {R : Value → Option (DataW Unit × List MemPlace)} {b n : Nat} {D : DataW Unit} (h : w.ownsMap Try.prog kt R b n D) (hk : Keeps N w w') (hb : ¬ N b) : w'.ownsMap Try.prog kt R b n D := by
  obtain ⟨es, clock, h1, hrest⟩ := h
  exact ⟨es, clock, (hk.block b (Array.getElem?_eq_some_iff.1 h1).1 hb).trans h1, hrest⟩

def Disj (l : List Value) : Prop := l.Pairwise (fun u v => ∀ k, u.ownBlock = some k → v.ownBlock ≠ some k)
/-- best at block g, of the keys and costs es; all its blocks are of N. -/
structure BS (N : Nat → Prop) (w : World) (g wd : Nat) (great : Bool) (es : List Ent) (L : List RV) (tv mv : Value) : Prop where
  gN : N g
  cells : w.heap[g]? = some (.cells #[.int .i64 wd, .bool great, tv, mv] 86 (0, 0))
  list : w.ownsRow 0 40 1 tv L.length (L.map encV)
  listN : ∀ k, tv.ownBlock = some k → N k
  cont : L.map (·.2.1) = es.map rowE
  rows : ∀ x ∈ L, w.ownsRow 0 2 1 (encV x) x.2.1.length (x.2.1.map (Value.int .i64))
  rowsN : ∀ x ∈ L, ∀ k, (encV x).ownBlock = some k → N k
  dis : Disj (L.map encV)
  ok : OkE wd es
  map : (mv = .map none ∧ es = []) ∨ ∃ b D, mv = .map (some b) ∧ N b ∧ w.ownsMap Try.prog 9 (plainElem Try.prog 3) b es.length D ∧ MapReads D (textsE es)
  lt : ∀ k, N k → k < w.heap.size
def Bst (N : Nat → Prop) (w : World) (g wd : Nat) (great : Bool) (es : List Ent) : Prop := ∃ L tv mv, BS N w g wd great es L tv mv
theorem BS.keeps {N M : Nat → Prop} {w w' : World} {g wd : Nat} {great : Bool} {es : List Ent} {L : List RV} {tv mv : Value} (h : BS N w g wd great es L tv mv) (hk : Keeps M w w') (hd : ∀ k, N k → ¬ M k) : BS N w' g wd great es L tv mv := by
  refine ⟨h.gN, (hk.block g (h.lt g h.gN) (hd g h.gN)).trans h.cells, owns_keeps h.list hk (fun b hb => hd b (h.listN b hb)), h.listN, h.cont, fun x hx => owns_keeps (h.rows x hx) hk (fun b hb => hd b (h.rowsN x hx b hb)), h.rowsN, h.dis, h.ok, ?_, fun k hN => Nat.lt_of_lt_of_le (h.lt k hN) hk.size⟩
  rcases h.map with h0 | ⟨b, D, e, hb, hm, hD⟩
  · exact .inl h0
  · exact .inr ⟨b, D, e, hb, map_keeps hm hk (hd b hb), hD⟩
theorem BS.below {N : Nat → Prop} {w w' : World} {g wd : Nat} {great : Bool} {es : List Ent} {L : List RV} {tv mv : Value} (h : BS N w g wd great es L tv mv) (hb : Below w.heap.size w w') : BS N w' g wd great es L tv mv := h.keeps (Keeps.of_below (N := fun _ => False) hb) (fun _ _ h => h)
theorem BS.mono {N M : Nat → Prop} {w : World} {g wd : Nat} {great : Bool} {es : List Ent} {L : List RV} {tv mv : Value} (h : BS N w g wd great es L tv mv) (hNM : ∀ k, N k → M k) (hlt : ∀ k, M k → k < w.heap.size) : BS M w g wd great es L tv mv := by
  refine ⟨hNM g h.gN, h.cells, h.list, fun k hk => hNM k (h.listN k hk), h.cont, h.rows, fun x hx k hk => hNM k (h.rowsN x hx k hk), h.dis, h.ok, ?_, hlt⟩
  rcases h.map with h0 | ⟨b, D, e, hb, hm, hD⟩
  · exact .inl h0
  · exact .inr ⟨b, D, e, hNM b hb, hm, hD⟩
theorem Bst.keeps {N M : Nat → Prop} {w w' : World} {g wd : Nat} {great : Bool} {es : List Ent} (h : Bst N w g wd great es) (hk : Keeps M w w') (hd : ∀ k, N k → ¬ M k) : Bst N w' g wd great es := by
  obtain ⟨L, tv, mv, h⟩ := h; exact ⟨L, tv, mv, h.keeps hk hd⟩
theorem Bst.below {N : Nat → Prop} {w w' : World} {g wd : Nat} {great : Bool} {es : List Ent} (h : Bst N w g wd great es) (hb : Below w.heap.size w w') : Bst N w' g wd great es := by
  obtain ⟨L, tv, mv, h⟩ := h; exact ⟨L, tv, mv, h.below hb⟩
theorem Bst.lt {N : Nat → Prop} {w : World} {g wd : Nat} {great : Bool} {es : List Ent} (h : Bst N w g wd great es) : ∀ k, N k → k < w.heap.size := by
  obtain ⟨L, tv, mv, h⟩ := h; exact h.lt
theorem Bst.gN {N : Nat → Prop} {w : World} {g wd : Nat} {great : Bool} {es : List Ent} (h : Bst N w g wd great es) : N g := by
  obtain ⟨L, tv, mv, h⟩ := h; exact h.gN
theorem Bst.ok {N : Nat → Prop} {w : World} {g wd : Nat} {great : Bool} {es : List Ent} (h : Bst N w g wd great es) : OkE wd es := by
  obtain ⟨L, tv, mv, h⟩ := h; exact h.ok
theorem BS.c {N : Nat → Prop} {w : World} {g wd : Nat} {great : Bool} {es : List Ent} {L : List RV} {tv mv : Value} (h : BS N w g wd great es L tv mv) : w.cell? ⟨g, 0, none⟩ = some (.int .i64 wd) ∧ w.cell? ⟨g, 1, none⟩ = some (.bool great) ∧ w.cell? ⟨g, 2, none⟩ = some tv ∧ w.cell? ⟨g, 3, none⟩ = some mv := by
  refine ⟨?_, ?_, ?_, ?_⟩ <;> (rw [cell_of_row w g _ _ 86 (0, 0) h.cells]; rfl)
theorem BS.len {N : Nat → Prop} {w : World} {g wd : Nat} {great : Bool} {es : List Ent} {L : List RV} {tv mv : Value} (h : BS N w g wd great es L tv mv) : L.length = es.length := by
  have := congrArg List.length h.cont; simpa using this
theorem BS.rowIs {N : Nat → Prop} {w : World} {g wd : Nat} {great : Bool} {es : List Ent} {L : List RV} {tv mv : Value} (h : BS N w g wd great es L tv mv) {i : Nat} {e : Ent} (hi : es[i]? = some e) : i < L.length ∧ (atV L i).2.1 = rowE e := by
  have hl : i < es.length := (List.getElem?_eq_some_iff.1 hi).1
  have hL : i < L.length := by rw [h.len]; exact hl
  refine ⟨hL, ?_⟩
  have := congrArg (fun l => l[i]?) h.cont
  simp only [List.getElem?_map, hi, Option.map_some, List.getElem?_eq_getElem hL] at this
  rw [atV_eq hL]
  simpa using this
theorem row_form {w : World} {v : Value} {n : Nat} {xs : List Value} {B : Nat} {t : TypeId} (h : w.ownsRow B t 1 v n xs) : ∃ a cap, v = .slice a n cap := by
  rcases h.2 with ⟨rfl, h0⟩ | ⟨r, cap, cur, rfl, _⟩
  · rw [h0]; exact ⟨_, _, rfl⟩
  · exact ⟨_, _, rfl⟩
theorem own_form {w : World} {v : Value} {n : Nat} {xs : List Value} {B : Nat} {t : TypeId} (h : w.ownsRow B t 1 v n xs) (hn : 0 < n) : ∃ b cap, v = .slice (some ⟨b, 0, none⟩) n cap ∧ b < w.heap.size := by
  rcases h.2 with ⟨rfl, h0⟩ | ⟨r, cap, cur, rfl, _, hr, _⟩
  · omega
  · exact ⟨_, _, rfl, (Array.getElem?_eq_some_iff.1 hr).1⟩
/-- How the row of a key lies, and best behind a store of a cost. -/
theorem BS.store {N : Nat → Prop} {w : World} {g wd : Nat} {great : Bool} {es : List Ent} {L : List RV} {tv mv : Value} (h : BS N w g wd great es L tv mv) {k : List Int} {d : Int} (hl : lookE es k = some d) (c : Int) :
    ∃ tb tc r rc, tv = .slice (some ⟨tb, 0, none⟩) L.length tc ∧ spotE es k < L.length ∧ w.cell? ⟨tb, spotE es k, none⟩ = some (.slice (some ⟨r, 0, none⟩) (wd + 1) rc) ∧ w.cell? ⟨r, wd, none⟩ = some (.int .i64 d) ∧ w.frozen? ⟨r, wd, none⟩ = false ∧ N r ∧
      BS N (w.setCell ⟨r, wd, none⟩ (.int .i64 c)) g wd great (updE es k c) (L.set (spotE es k) (some ⟨r, 0, none⟩, rowE (k, c), rc)) tv mv := by
  have hat := spot_at hl
  obtain ⟨hiL, hrow⟩ := h.rowIs hat
  have hmem : (k, d) ∈ es := List.mem_of_getElem? hat
  have hkl : k.length = wd := h.ok.len _ hmem
  have hrl : (rowE (k, d)).length = wd + 1 := by simp [rowE, hkl]
  have hsl := spot_lt hl
  have hsa := spot_at hl
  have hup := upd_set hl c
  generalize spotE es k = i at *
  obtain ⟨tb, tc, htv, _⟩ := own_form h.list (by omega)
  have hx := h.rows _ (atV_mem hiL)
  rw [hrow] at hx
  obtain ⟨r, rc, hxe, hrlt⟩ := own_form hx (by omega)
  have hxe' : encV (atV L i) = .slice (some ⟨r, 0, none⟩) (wd + 1) rc := by rw [hxe, hrl]
  have hx2 : w.ownsRow 0 2 1 (.slice (some ⟨r, 0, none⟩) (wd + 1) rc) (wd + 1) ((rowE (k, d)).map (Value.int .i64)) := by rw [hxe', hrl] at hx; exact hx
  have hxa : (atV L i).1 = some ⟨r, 0, none⟩ ∧ (atV L i).2.2 = rc := by
    have := hxe; unfold encV at this; simp only [Value.slice.injEq] at this; exact ⟨this.1, this.2.2⟩
  have hNr : N r := h.rowsN _ (atV_mem hiL) r (by rw [hxe']; rfl)
  have hcell : w.cell? ⟨tb, i, none⟩ = some (.slice (some ⟨r, 0, none⟩) (wd + 1) rc) := by
    have hlist := h.list
    rw [htv] at hlist
    rw [hlist.cellAt i (by omega), map_at hiL, hxe']
  have hcd : w.cell? ⟨r, wd, none⟩ = some (.int .i64 d) := by
    rw [hx2.cellAt wd (by omega), List.getElem?_map]
    simp [rowE, hkl]
  have hfd := hx2.frozenAt wd
  obtain ⟨hst, hgr⟩ := hx2.stored wd (.int .i64 c)
  have hset : ((rowE (k, d)).map (Value.int .i64)).set wd (.int .i64 c) = (rowE (k, c)).map (Value.int .i64) := by
    rw [← List.map_set]
    congr 1
    simp [rowE, List.set_append_right, hkl]
  rw [hset] at hst
  have hle : ∀ x : RV, encV (some ⟨r, 0, none⟩, rowE (k, c), rc) = encV (atV L i) := fun _ => by rw [hxe']; simp [encV, rowE, hkl]
  have henc : (L.set i (some ⟨r, 0, none⟩, rowE (k, c), rc)).map encV = L.map encV := by
    rw [List.map_set, hle (none, [], 0), atV_eq hiL, ← List.getElem_map (f := encV) (h := by simpa using hiL), List.set_getElem_self]
  refine ⟨tb, tc, r, rc, htv, hiL, hcell, hcd, hfd, hNr, h.gN, ?_, ?_, h.listN, ?_, ?_, ?_, ?_, ⟨dist_upd h.ok.dist k c, (fun e he => ?_), (fun e he => ?_)⟩, ?_, fun b hb => by simpa using h.lt b hb⟩
  · rw [hgr.block g (h.lt g h.gN) (fun e => own_ne_cells hx2 h.cells (by decide) e.symm)]; exact h.cells
  · rw [henc, List.length_set]
    exact h.list.kept hgr (.inr (fun e => own_ne_own hx2 h.list (by decide) r rfl e))
  · rw [List.map_set, h.cont, hup, List.map_set]
  · intro x hxm
    obtain ⟨j, hj, e⟩ := List.getElem_of_mem hxm
    rw [List.length_set] at hj
    by_cases hji : i = j
    · subst hji
      rw [List.getElem_set_self] at e
      subst e
      have : encV (some ⟨r, 0, none⟩, rowE (k, c), rc) = .slice (some ⟨r, 0, none⟩) (wd + 1) rc := by rw [hle (none, [], 0), hxe']
      rw [this]
      have h9 : (rowE (k, c)).length = wd + 1 := by simp [rowE, hkl]
      show World.ownsRow _ 0 2 1 _ (rowE (k, c)).length ((rowE (k, c)).map (Value.int .i64))
      rw [h9]
      exact hst
    · rw [List.getElem_set_ne hji] at e
      subst e
      refine (h.rows _ (List.getElem_mem hj)).kept hgr (.inr (fun e2 => ?_))
      have hp := List.pairwise_iff_getElem.1 h.dis
      rcases Nat.lt_or_gt_of_ne hji with h1 | h1
      · have := hp i j (by simpa using hiL) (by simpa using hj) h1 r (by simp only [List.getElem_map]; rw [← atV_eq hiL, hxe']; rfl)
        simp only [List.getElem_map] at this
        exact this e2
      · have := hp j i (by simpa using hj) (by simpa using hiL) h1 r (by simp only [List.getElem_map]; exact e2)
        simp only [List.getElem_map] at this
        rw [← atV_eq hiL, hxe'] at this
        exact this rfl
  · intro x hxm b hb
    rcases List.mem_or_eq_of_mem_set hxm with h1 | h1
    · exact h.rowsN x h1 b hb
    · subst h1
      rw [hle (none, [], 0), hxe'] at hb
      simp only [Value.ownBlock, Option.some.injEq] at hb
      subst hb; exact hNr
  · unfold Disj; rw [henc]; exact h.dis
  · rcases mem_upd he with rfl | he
    · exact hkl
    · exact h.ok.len e he
  · rcases mem_upd he with rfl | he
    · exact h.ok.rng (k, d) hmem
    · exact h.ok.rng e he
  · have hts : textsE (updE es k c) = textsE es := by
      unfold textsE
      rw [hup, List.map_set]
      apply List.ext_getElem?
      intro j
      rw [List.getElem?_set]
      split
      · rename_i hij
        subst hij
        rw [List.getElem?_map, hsa]
        simp [hsl]
      · rfl
    have hul : (updE es k c).length = es.length := by rw [hup, List.length_set]
    rcases h.map with ⟨e1, e2⟩ | ⟨b, D, e1, hb, hm, hD⟩
    · subst e2; simp [lookE] at hl
    · refine .inr ⟨b, D, e1, hb, ?_, by rw [hts]; exact hD⟩
      rw [hul]
      exact hm.kept hgr (fun e => own_ne_map hx2 hm e.symm)
/-- A new one. -/
theorem BS.new (w : World) (wd : Nat) (great : Bool) : BS (fun k => k = w.heap.size) (w.alloc (.cells #[.int .i64 wd, .bool great, .slice none 0 0, .map none] 86)) w.heap.size wd great [] [] (.slice none 0 0) (.map none) :=
  ⟨rfl, heap_alloc_new w _, World.ownsRow_nil _ _ _ _, (fun k hk => by simp [Value.ownBlock] at hk), rfl, (fun x hx => by cases hx), (fun x hx => by cases hx), List.Pairwise.nil, OkE.nil wd, .inl ⟨rfl, rfl⟩, (fun k hk => by subst hk; simp)⟩
end Go.Proofs.Ytcecndjkfdaaaaa
