import Derived.Test.YtepkmhcchmladaaSg17
import Derived.Maps.AppendAt
import Derived.Deep.RegionLaw
import Derived.BigRegion
/- Contract of take: a relation under way grows by rows of another. Written by mksg18.py. -/
namespace Go.Proofs.Ytepkmhcchmladaa
open Go.RowKit
set_option linter.unusedVariables false
set_option linter.unusedSimpArgs false

/-- append of any number of elements, none too: the new value is a slice. -/
theorem run_append_any {P : Program} (w : World) (t ty : TypeId) (base : Nat) (e : TypeId) (i : TypeInfo) (z : Value) (size bytes : Nat) (ht : P.underlying t = some (.slice e)) (hi : P.info? e = some i) (hz : i.zero = some z)
    (hsize : i.size = size) (hby : i.bytes = bytes) (hzs : z.cells.size = size) (hsz : 0 < size)
    (v : Value) (n : Nat) (xs : List Value) (hown : w.ownsRow base e size v n xs)
    (ad : Addr) (m c : Nat) (news : List Value) (hl : news.length = m * size) (hnews : ∀ j u, news[j]? = some u → w.cell? (ad.add j) = some u) (h1 : ∀ u ∈ news, u.oneCell' = true)
    (h63 : n + m ≤ maxLen) (hbytes : (n + m) * bytes ≤ 140737488355328) (hbase : base ≤ w.heap.size) :
    ∃ av cap w', (Builtin.append_ #[t, t] ty #[v, .slice (some ad) m c]).run P w = .ok (.slice av (n + m) cap) w' ∧ w'.ownsRow base e size (.slice av (n + m) cap) (n + m) (xs ++ news) ∧ w.grownBy w' v.ownBlock ∧ ((Value.slice av (n + m) cap).ownBlock = v.ownBlock ∨ (Value.slice av (n + m) cap).ownBlock = some w.heap.size) := by
  obtain ⟨v', w', hr, h2, h3, _, h5⟩ := run_append_own_at (P := P) w base t ty e i z size bytes ht hi hz hsize hby hzs hsz v n xs hown ad m c news hl hnews h1 h63 hbytes hbase
  obtain ⟨av, cap, rfl⟩ : ∃ av cap, v' = .slice av (n + m) cap := by
    rcases h2.2 with ⟨e1, e2⟩ | ⟨g, cap, _, e1, _⟩
    · exact ⟨none, 0, by rw [e2]; exact e1⟩
    · exact ⟨_, cap, e1⟩
  exact ⟨av, cap, w', hr, h2, h3, h5⟩

/-- append under a name that the walk does not open. -/
noncomputable def appM (ats : Array TypeId) (ty : TypeId) (args : Array Value) : Sem Value := Builtin.append_ ats ty args
theorem app_rule (ats : Array TypeId) (ty : TypeId) (args : Array Value) : Builtin.append_ ats ty args = appM ats ty args := rfl
attribute [local go_sem ↓] app_rule
def atK (K : List Value) (k : Nat) : Value := K[k]?.getD (.slice none 0 0)
theorem atK_set {K : List Value} {k i : Nat} {u : Value} (hk : k < K.length) : atK (K.set k u) i = if i = k then u else atK K i := by
  unfold atK
  rw [List.getElem?_set]
  by_cases h : k = i
  · subst h; simp [hk]
  · rw [if_neg h, if_neg (fun e => h e.symm)]

/-- A relation under way: its block g, the block h of its columns, each of which owns its row. -/
structure GC (B : Nat) (w : World) (g h wd : Nat) (K : List Value) (C : Nat → List Int) (cnt : Nat) : Prop where
  blk : w.heap[g]? = some (.cells #[.int .i64 wd, .int .i64 cnt, .slice (some ⟨h, 0, none⟩) wd wd] 61 (0, 0))
  lst : w.heap[h]? = some (.cells K.toArray 33 (0, 0))
  len : K.length = wd
  ne : h ≠ g
  gB : B ≤ g
  hB : B ≤ h
  own : ∀ k, k < wd → w.ownsRow B 2 1 (atK K k) (C k).length ((C k).map (Value.int .i64))
  far : ∀ k, k < wd → (atK K k).ownBlock ≠ some g ∧ (atK K k).ownBlock ≠ some h
  sep : ∀ i k b, i < wd → k < wd → i ≠ k → (atK K i).ownBlock = some b → (atK K k).ownBlock ≠ some b
theorem GC.drewN {B : Nat} {w : World} {g h wd : Nat} {K : List Value} {C : Nat → List Int} {cnt : Nat} (x : GC B w g h wd K C cnt) (n : Nat) : GC B (w.drewN n) g h wd K C cnt := ⟨x.blk, x.lst, x.len, x.ne, x.gB, x.hB, x.own, x.far, x.sep⟩
theorem GC.below {B : Nat} {w w' : World} {g h wd : Nat} {K : List Value} {C : Nat → List Int} {cnt : Nat} (x : GC B w g h wd K C cnt) (hb : Below w.heap.size w w') : GC B w' g h wd K C cnt :=
  ⟨(hb.block g (Array.getElem?_eq_some_iff.1 x.blk).1).trans x.blk, (hb.block h (Array.getElem?_eq_some_iff.1 x.lst).1).trans x.lst, x.len, x.ne, x.gB, x.hB, fun k hk => owns_keeps (N := fun _ => False) (x.own k hk) (Keeps.of_below hb) (fun _ _ h => h), x.far, x.sep⟩
theorem GC.congr {B : Nat} {w : World} {g h wd : Nat} {K : List Value} {C C' : Nat → List Int} {cnt : Nat} (x : GC B w g h wd K C cnt) (hc : ∀ k, k < wd → C k = C' k) : GC B w g h wd K C' cnt :=
  ⟨x.blk, x.lst, x.len, x.ne, x.gB, x.hB, fun k hk => by rw [← hc k hk]; exact x.own k hk, x.far, x.sep⟩
theorem GC.cells {B : Nat} {w : World} {g h wd : Nat} {K : List Value} {C : Nat → List Int} {cnt : Nat} (x : GC B w g h wd K C cnt) :
    w.cell? ⟨g, 0, none⟩ = some (.int .i64 wd) ∧ w.cell? ⟨g, 1, none⟩ = some (.int .i64 cnt) ∧ w.cell? ⟨g, 2, none⟩ = some (.slice (some ⟨h, 0, none⟩) wd wd) ∧ w.frozen? ⟨g, 1, none⟩ = false := by
  refine ⟨?_, ?_, ?_, ?_⟩
  · rw [cell_of_row w g _ _ 61 (0, 0) x.blk]; rfl
  · rw [cell_of_row w g _ _ 61 (0, 0) x.blk]; rfl
  · rw [cell_of_row w g _ _ 61 (0, 0) x.blk]; rfl
  · simp [World.frozen?, x.blk]
theorem GC.colCell {B : Nat} {w : World} {g h wd : Nat} {K : List Value} {C : Nat → List Int} {cnt : Nat} (x : GC B w g h wd K C cnt) {k : Nat} (hk : k < wd) :
    w.cell? ⟨h, k, none⟩ = some (atK K k) ∧ w.frozen? ⟨h, k, none⟩ = false := by
  refine ⟨?_, by simp [World.frozen?, x.lst]⟩
  rw [cell_of_row w h _ _ 33 (0, 0) x.lst]
  have : k < K.length := by rw [x.len]; exact hk
  simp [atK, this]
theorem GC.shape {B : Nat} {w : World} {g h wd : Nat} {K : List Value} {C : Nat → List Int} {cnt : Nat} (x : GC B w g h wd K C cnt) {k : Nat} (hk : k < wd) : ∃ a c, atK K k = .slice a (C k).length c ∧ (C k).length ≤ c := by
  rcases (x.own k hk).2 with ⟨e1, e2⟩ | ⟨b, cap, _, e1, _, _, e2, _⟩
  · exact ⟨none, 0, by rw [e1, e2], by omega⟩
  · exact ⟨_, cap, e1, e2⟩
/-- One column grown. -/
theorem GC.grow {B : Nat} {w w1 : World} {g h wd : Nat} {K : List Value} {C : Nat → List Int} {cnt k : Nat} (x : GC B w g h wd K C cnt) (hk : k < wd) {av : Option Addr} {n c : Nat} {ns : List Int}
    (hn : n = (ns.length)) (hown : w1.ownsRow B 2 1 (.slice av n c) n (ns.map (Value.int .i64))) (hgrow : w.grownBy w1 (atK K k).ownBlock) (hat : (Value.slice av n c).ownBlock = (atK K k).ownBlock ∨ (Value.slice av n c).ownBlock = some w.heap.size) :
    GC B (w1.setCell ⟨h, k, none⟩ (.slice av n c)) g h wd (K.set k (.slice av n c)) (fun i => if i = k then ns else C i) cnt := by
  have hgl : g < w.heap.size := (Array.getElem?_eq_some_iff.1 x.blk).1
  have hhl : h < w.heap.size := (Array.getElem?_eq_some_iff.1 x.lst).1
  have hkl : k < K.length := by rw [x.len]; exact hk
  have b1 : w1.heap[g]? = w.heap[g]? := hgrow.block g hgl (fun e => (x.far k hk).1 e.symm)
  have b2 : w1.heap[h]? = w.heap[h]? := hgrow.block h hhl (fun e => (x.far k hk).2 e.symm)
  have l2 : w1.heap[h]? = some (.cells K.toArray 33 (0, 0)) := b2.trans x.lst
  have nf : (Value.slice av n c).ownBlock ≠ some g ∧ (Value.slice av n c).ownBlock ≠ some h := by
    rcases hat with e | e
    · rw [e]; exact x.far k hk
    · rw [e]; exact ⟨(fun e => by cases e; omega), (fun e => by cases e; omega)⟩
  refine ⟨?_, ?_, by simpa using x.len, x.ne, x.gB, x.hB, fun i hi => ?_, fun i hi => ?_, fun i j b hi hj hij hb => ?_⟩
  · rw [Go.heap_setCell_other _ _ _ _ (by show g ≠ h; exact fun e => x.ne e.symm)]; exact b1.trans x.blk
  · rw [Go.heap_setCell_same _ _ _ _ _ _ l2]; simp
  · rw [atK_set hkl]
    by_cases e : i = k
    · rw [if_pos e, if_pos e, ← hn]
      exact owns_keeps (N := fun b => b = h) hown ((Keeps.refl (fun b => b = h) w1).setCell (p := ⟨h, k, none⟩) rfl _) (fun b hb e => nf.2 (by rw [hb, e]))
    · rw [if_neg e, if_neg e]
      refine owns_keeps (N := fun b => b = h ∨ (atK K k).ownBlock = some b) (x.own i hi) ((Keeps.of_grown hgrow (fun b hb => .inr hb)).setCell (p := ⟨h, k, none⟩) (.inl rfl) _) (fun b hb hN => ?_)
      rcases hN with hN | hN
      · exact (x.far i hi).2 (by rw [hb, hN])
      · exact x.sep i k b hi hk e hb hN
  · rw [atK_set hkl]
    by_cases e : i = k
    · rw [if_pos e]; exact nf
    · rw [if_neg e]; exact x.far i hi
  · have old : ∀ i, i < wd → ∀ b, (atK K i).ownBlock = some b → b < w.heap.size := fun i hi b hb => by
      rcases (x.own i hi).2 with ⟨e1, _⟩ | ⟨b', cap, _, e1, _, e2, _⟩
      · rw [e1] at hb; cases hb
      · rw [e1] at hb; cases hb; exact (Array.getElem?_eq_some_iff.1 e2).1
    rw [atK_set hkl] at hb ⊢
    by_cases e : i = k
    · rw [if_pos e] at hb
      rw [if_neg (fun e' => hij (e.trans e'.symm))]
      intro h'
      rcases hat with e2 | e2
      · rw [e2] at hb; exact x.sep k j b hk hj (fun e' => hij (e.trans e')) hb h'
      · rw [e2] at hb; cases hb; have := old j hj _ h'; omega
    · rw [if_neg e] at hb
      by_cases e3 : j = k
      · rw [if_pos e3]
        intro h'
        rcases hat with e2 | e2
        · rw [e2] at h'; exact x.sep i k b hi hk e hb h'
        · rw [e2] at h'; cases h'; have := old i hi _ hb; omega
      · rw [if_neg e3]; exact x.sep i j b hi hj hij hb

/-- Another count. -/
theorem GC.count {B : Nat} {w : World} {g h wd : Nat} {K : List Value} {C : Nat → List Int} {cnt : Nat} (x : GC B w g h wd K C cnt) (n : Nat) : GC B (w.setCell ⟨g, 1, none⟩ (.int .i64 n)) g h wd K C n := by
  refine ⟨?_, ?_, x.len, x.ne, x.gB, x.hB, fun k hk => ?_, x.far, x.sep⟩
  · rw [Go.heap_setCell_same _ _ _ _ _ _ x.blk]; rfl
  · rw [Go.heap_setCell_other _ _ _ _ (by show h ≠ g; exact x.ne)]; exact x.lst
  · exact owns_keeps (N := fun b => b = g) (x.own k hk) ((Keeps.refl (fun b => b = g) w).setCell (p := ⟨g, 1, none⟩) rfl _) (fun b hb e => (x.far k hk).1 (by rw [hb, e]))
/-- The columns while the first k of them have grown. -/
def cmid (T U : List (List Int)) (k i : Nat) : List Int := if i < k then colOf U i else colOf T i
theorem cmid_step {T U : List (List Int)} {k i : Nat} : (if i = k then colOf U k else cmid T U k i) = cmid T U (k + 1) i := by
  unfold cmid
  by_cases e : i = k
  · subst e; rw [if_pos rfl, if_pos (by omega)]
  · rw [if_neg e]
    by_cases h : i < k
    · rw [if_pos h, if_pos (by omega)]
    · rw [if_neg h, if_neg (by omega)]

/-- A relation under way, in either form. -/
def GSeg (B : Nat) (w : World) (g wd : Nat) (T : List (List Int)) : Prop :=
  (w.heap[g]? = some (.cells #[.int .i64 wd, .int .i64 0, .slice none 0 0] 61 (0, 0)) ∧ B ≤ g ∧ T = []) ∨ ∃ h K, GC B w g h wd K (colOf T) T.length
theorem GSeg.below {B : Nat} {w w' : World} {g wd : Nat} {T : List (List Int)} (x : GSeg B w g wd T) (hb : Below w.heap.size w w') : GSeg B w' g wd T := by
  rcases x with ⟨h1, h2, h3⟩ | ⟨h, K, h1⟩
  · exact .inl ⟨(hb.block g (Array.getElem?_eq_some_iff.1 h1).1).trans h1, h2, h3⟩
  · exact .inr ⟨h, K, h1.below hb⟩
/-- The rows from one index up to another. -/
def cut (ys : List (List Int)) (i j : Nat) : List (List Int) := (ys.drop i).take (j - i)
theorem cut_len {ys : List (List Int)} {i j : Nat} (hij : i ≤ j) (hj : j ≤ ys.length) : (cut ys i j).length = j - i := by simp [cut]; omega
theorem col_cut {T ys : List (List Int)} {i j k : Nat} : colOf (T ++ cut ys i j) k = colOf T k ++ ((colOf ys k).drop i).take (j - i) := by
  simp [colOf, cut]
def TakeRet (B : Nat) (w0 : World) (g wd : Nat) (U : List (List Int)) (e : Ending) (w' : World) : Prop := e = .returned (.tuple #[]) ∧ GSeg B w' g wd U ∧ Below B w0 w'
theorem eql_none22 (w : World) : (binOp BinOp.eql 28 (Value.slice none 0 0) (Value.slice none 0 0)).run Try.prog w = .ok (.bool true) w := by kernel_rfl
theorem eql_some22 (a : Addr) (n c : Nat) (w : World) : (binOp BinOp.eql 28 (Value.slice (some a) n c) (Value.slice none 0 0)).run Try.prog w = .ok (.bool false) w := by kernel_rfl
attribute [local go_sem ↓] eql_none22 eql_some22
theorem made_gc {B : Nat} {w w1 : World} {g wd : Nat} (hblk : w.heap[g]? = some (.cells #[.int .i64 wd, .int .i64 0, .slice none 0 0] 61 (0, 0))) (hg : B ≤ g) (hB : B ≤ w.heap.size)
    (hown : w1.ownsRow B 33 1 (.slice (some ⟨w.heap.size, 0, none⟩) wd wd) wd (List.replicate wd (.slice none 0 0))) (hgrow : w.grownBy w1 none) :
    GC B (w1.setCell ⟨g, 2, none⟩ (.slice (some ⟨w.heap.size, 0, none⟩) wd wd)) g w.heap.size wd (List.replicate wd (.slice none 0 0)) (fun _ => []) 0 := by
  have hgl : g < w.heap.size := (Array.getElem?_eq_some_iff.1 hblk).1
  have b1 : w1.heap[g]? = some (.cells #[.int .i64 wd, .int .i64 0, .slice none 0 0] 61 (0, 0)) := (hgrow.block g hgl (fun e => by cases e)).trans hblk
  have hat : ∀ k, atK (List.replicate wd (.slice none 0 0)) k = .slice none 0 0 := fun k => by
    unfold atK; rw [List.getElem?_replicate]; by_cases h : k < wd <;> simp [h]
  have l1 : w1.heap[w.heap.size]? = some (.cells (List.replicate wd (Value.slice none 0 0)).toArray 33 (0, 0)) := by
    rcases hown.2 with ⟨e, _⟩ | ⟨b, cap, cur, e, _, hh, _, _, hcs, ht⟩
    · cases e
    · cases e
      rw [hh]
      have : cur.toList = List.replicate wd (Value.slice none 0 0) := by rw [← ht, List.take_of_length_le (by simp; omega)]
      rw [← this]
  refine ⟨?_, ?_, by simp, by omega, hg, hB, fun k hk => ?_, fun k hk => ?_, fun i k b hi hk _ hb => ?_⟩
  · rw [Go.heap_setCell_same _ _ _ _ _ _ b1]; rfl
  · rw [Go.heap_setCell_other _ _ _ _ (by show w.heap.size ≠ g; omega)]; exact l1
  · rw [hat]; exact World.ownsRow_nil _ _ _ _
  · rw [hat]; exact ⟨(fun e => by cases e), (fun e => by cases e)⟩
  · rw [hat] at hb; cases hb

set_option maxRecDepth 100000 in
set_option maxHeartbeats 4000000 in
theorem take_calls {w0 w : World} {B g wd : Nat} {T ys : List (List Int)} {o : Option Addr} (hG : GSeg B w g wd T) (hS : Seg w0 o wd ys) (hB : w0.heap.size = B) (hb : Below B w0 w) (i j : Nat) (hij : i ≤ j) (hj : j ≤ ys.length) (hy0 : 0 < ys.length) (hwd : wd ≤ 1000) (hy : ys.length ≤ 1000000) (hT : T.length ≤ 1000000) :
    Calls Try.prog 56 #[.pointer (some ⟨g, 0, none⟩), .pointer o, .int .i64 i, .int .i64 j] w (TakeRet B w0 g wd (T ++ cut ys i j)) := by
  obtain ⟨i0, hi, hz0, hz1, hz2⟩ := info_parts info33
  obtain ⟨i1, hi', hz0', hz1', hz2'⟩ := info_parts info2
  have I := Lib.hid hi
  have Z0 := Lib.hid hz0
  have Z1 := Lib.hid hz1
  have Z2 := Lib.hid hz2
  have I' := Lib.hid hi'
  have Z0' := Lib.hid hz0'
  have Z1' := Lib.hid hz1'
  have Z2' := Lib.hid hz2'
  clear hi hz0 hz1 hz2 hi' hz0' hz1' hz2'
  obtain ⟨og, oa, oc, OK, rfl, hog, hOK, hOR⟩ := hS.parts hy0
  have hol : og < B := by rw [← hB]; exact (Array.getElem?_eq_some_iff.1 hog).1
  have HO := Lib.hid (show OK.map (·.2.1) = colsOf wd ys ∧ RRow w0 oa OK from ⟨hOK, hOR⟩)
  have HC2 := Lib.hid (segCells hog).2.2
  have HB := Lib.hid hB
  have HBe := Lib.hid hb
  have HU := Lib.hid (cut_len hij hj)
  have HCC : Hid (∀ k, colOf (T ++ cut ys i j) k = colOf T k ++ ((colOf ys k).drop i).take (j - i)) := Lib.hid (fun k => col_cut)
  have hBw : B ≤ w.heap.size := by have := hb.size; omega
  clear hS hog hOK hOR hB hb
  obtain ⟨U, hU⟩ : ∃ U, T ++ cut ys i j = U := ⟨_, rfl⟩
  rw [hU] at HCC ⊢
  have HUL : Hid (U.length = T.length + (j - i)) := Lib.hid (by rw [← hU, List.length_append, HU.out])
  clear hU HU
  rcases hG with ⟨hblk, hgB, hT0⟩ | ⟨h, K0, hGC⟩
  · have HT0 := Lib.hid hT0
    clear hT0
    have c0 : w.cell? ⟨g, 0, none⟩ = some (.int .i64 wd) := by rw [cell_of_row w g _ _ 61 (0, 0) hblk]; rfl
    have c2 : w.cell? ⟨g, 2, none⟩ = some (.slice none 0 0) := by rw [cell_of_row w g _ _ 61 (0, 0) hblk]; rfl
    have hgl : g < w.heap.size := (Array.getElem?_eq_some_iff.1 hblk).1
    have HBK := Lib.hid hblk
    clear hblk
    go_enter Try.func56, Try.ntmps56
    go_wp2_with (first | (refine wpList_make_full _ rfl (.tmp 18) (.tmp 18) 28 rfl B 33 i0 (.slice none 0 0) 1 Try.underlying28 I.out Z0.out Z1.out .i64 .i64 _ _ wd rfl rfl rfl rfl ?c1 ?c2 ?c3 ?_))
    case c1 => rw [Z2.out]; omega
    case c2 => unfold maxLen; omega
    case c3 => exact hBw
    intro w1 hown hgrow
    rw [made_rows] at hown
    have e2 : w1.cell? ⟨g, 2, none⟩ = some (.slice none 0 0) := (hgrow.cell_far ⟨g, 2, none⟩ hgl (fun e => by cases e)).trans c2
    have e3 : w1.frozen? ⟨g, 2, none⟩ = false := (hgrow.frozen_far ⟨g, 2, none⟩ hgl (fun e => by cases e)).trans (by simp [World.frozen?, HBK.out])
    have M0 : Hid (GC B (w1.setCell ⟨g, 2, none⟩ (.slice (some ⟨w.heap.size, 0, none⟩) wd wd)) g w.heap.size wd (List.replicate wd (.slice none 0 0)) (cmid T U 0) T.length) := Lib.hid (by rw [HT0.out]; exact (made_gc HBK.out hgB hBw hown hgrow).congr (fun k _ => by simp [cmid, colOf]))
    have B0 : Hid (Below B w0 (w1.setCell ⟨g, 2, none⟩ (.slice (some ⟨w.heap.size, 0, none⟩) wd wd))) := Lib.hid ((HBe.out.trans (grown_below hgrow hBw)).setCell (by exact hgB) _)
    obtain ⟨h, hh⟩ : ∃ h, w.heap.size = h := ⟨_, rfl⟩
    rw [hh] at M0 B0 ⊢
    have e4 := M0.out.cells.2.2.1
    clear hown hgrow c0 c2
    go_wp2_with fail
    go_loopw [27] (fun s wr => ∃ (k : Nat) (K : List Value), k ≤ wd ∧ s = .int .i64 k ∧ Hid (GC B wr g h wd K (cmid T U k) T.length) ∧ Hid (Below B w0 wr)) (fun s _ => wd - (intOf s).toNat)
    case atStart => exact ⟨0, _, Nat.zero_le _, rfl, M0, B0⟩
    case round =>
      clear e4
      obtain ⟨k, K, hk, rfl, HM, HW⟩ := hrel
      have d2 := HM.out.cells.2.2.1
      have hBr : B ≤ wr.heap.size := by have := HW.out.size; rw [HB.out] at this; exact this
      have hgl : g < wr.heap.size := (Array.getElem?_eq_some_iff.1 HM.out.blk).1
      have hhl : h < wr.heap.size := (Array.getElem?_eq_some_iff.1 HM.out.lst).1
      by_cases hlt : k < wd
      · have hmid : cmid T U k k = colOf T k := by unfold cmid; rw [if_neg (by omega)]
        obtain ⟨ca, cc, hce, hcc⟩ := HM.out.shape hlt
        rw [hmid, colOf_len] at hce hcc
        have f1 : wr.cell? ⟨h, k, none⟩ = some (.slice ca T.length cc) := by rw [(HM.out.colCell hlt).1, hce]
        have f2 : wr.frozen? ⟨h, k, none⟩ = false := (HM.out.colCell hlt).2
        have HOW : Hid (wr.ownsRow B 2 1 (.slice ca T.length cc) T.length ((colOf T k).map (Value.int .i64))) := Lib.hid (by have := HM.out.own k hlt; rw [hce, hmid, colOf_len] at this; exact this)
        have FAR1 : Hid (some g ≠ (Value.slice ca T.length cc).ownBlock) := Lib.hid (by rw [← hce]; exact fun e => (HM.out.far k hlt).1 e.symm)
        have FAR2 : Hid (some h ≠ (Value.slice ca T.length cc).ownBlock) := Lib.hid (by rw [← hce]; exact fun e => (HM.out.far k hlt).2 e.symm)
        have HCE := Lib.hid hce
        obtain ⟨_, b1, off1, xa, xc, rfl, hb1, hc1, hrow, hxc⟩ := colAt HO.out.1 (HO.out.2.belowB HB.out HW.out) hlt
        obtain ⟨b2, off2, rfl, hb2, hc2⟩ : ∃ b2 off2, xa = some ⟨b2, off2, none⟩ ∧ b2 < wr.heap.size ∧ ∀ q, q < ys.length → wr.cell? ⟨b2, off2 + q, none⟩ = some (.int .i64 ((colOf ys k)[q]?.getD 0)) := by
          rcases hrow with h9 | ⟨b2, off2, ha, hlt2, hcc⟩
          · have : ys.length = 0 := by rw [← colOf_len ys k, h9]; rfl
            omega
          · exact ⟨b2, off2, ha, hlt2, fun q hq => hcc q (by rw [colOf_len]; exact hq)⟩
        obtain ⟨D, hD⟩ : ∃ D, ((colOf ys k).drop i).take (j - i) = D := ⟨_, rfl⟩
        have DC : Hid (colOf U k = colOf T k ++ D) := Lib.hid (by rw [HCC.out, hD])
        have DLn : D.length = j - i := by rw [← hD, List.length_take, List.length_drop, colOf_len]; omega
        have DL : Hid ((D.map (Value.int .i64)).length = (j - i) * 1) := Lib.hid (by simp; exact DLn)
        have DL2 := Lib.hid DLn
        have DO : Hid (∀ u ∈ D.map (Value.int .i64), u.oneCell' = true) := Lib.hid (fun u hu => by obtain ⟨y, _, rfl⟩ := List.mem_map.1 hu; rfl)
        have DA : ∀ q u, (D.map (Value.int .i64))[q]? = some u → wr.cell? ⟨b2, off2 + i + q, none⟩ = some u := fun q u hu => by
          have hq : q < D.length := by
            rcases Nat.lt_or_ge q D.length with h | h
            · exact h
            · rw [List.getElem?_eq_none (by simpa using h)] at hu; cases hu
          rw [Nat.add_assoc, hc2 (i + q) (by omega), ← hu, ← hD]
          have h5 : i + q < (colOf ys k).length := by rw [colOf_len]; omega
          rw [List.getElem?_map, List.getElem?_take_of_lt (by omega), List.getElem?_drop, List.getElem?_eq_getElem h5]
          rfl
        have hxc' : ys.length ≤ xc := by omega
        have d3 : wr.cell? ⟨og, 2, none⟩ = some (.slice (some ⟨b1, off1, none⟩) wd oc) := (HW.out.cell (p := ⟨og, 2, none⟩) hol).trans HC2.out
        have x1 : (i : Int) ≤ (j : Int) := by omega
        have x2 : (j : Int) ≤ (xc : Int) := by omega
        have x3 : (0 : Int) ≤ (i : Int) := by omega
        have x4 : (k : Int) < (wd : Int) := by omega
        have x5 : (0 : Int) ≤ (k : Int) := by omega
        clear hrow hc2 hD DLn hmid hce
        by_cases hxf : xc = i
        · have hji : j = i := by omega
          have DN : Hid (∀ q u, (D.map (Value.int .i64))[q]? = some u → wr.cell? ((⟨b2, off2, none⟩ : Addr).add q) = some u) := Lib.hid (fun q u hu => by
            have h0 : D = [] := List.eq_nil_of_length_eq_zero (by have := DL2.out; omega)
            rw [h0] at hu; simp at hu)
          clear DA hji
          obtain rfl : i = xc := hxf.symm
          obtain ⟨av, cap, w1, hrun, hown1, hgrow, hat⟩ := run_append_any (P := Try.prog) wr.drew 33 33 B 2 i1 _ 1 8 Try.underlying33 I'.out Z0'.out Z1'.out Z2'.out rfl (by omega) (.slice ca T.length cc) T.length ((colOf T k).map (Value.int .i64)) HOW.out ⟨b2, off2, none⟩ (j - i) 0 (D.map (Value.int .i64)) DL.out DN.out DO.out (by unfold maxLen; omega) (by omega) hBr
          have hrun' : (appM #[33, 33] 33 #[.slice ca T.length cc, .slice (some ⟨b2, off2, none⟩) (j - i) 0]).run Try.prog wr.drew = .ok (.slice av (T.length + (j - i)) cap) w1 := hrun
          clear hrun
          have e1 : w1.cell? ⟨g, 2, none⟩ = some (.slice (some ⟨h, 0, none⟩) wd wd) := (hgrow.cell_far ⟨g, 2, none⟩ hgl FAR1.out).trans d2
          have e2 : w1.cell? ⟨h, k, none⟩ = some (.slice ca T.length cc) := (hgrow.cell_far ⟨h, k, none⟩ hhl FAR2.out).trans f1
          have e3 : w1.frozen? ⟨h, k, none⟩ = false := (hgrow.frozen_far ⟨h, k, none⟩ hhl FAR2.out).trans f2
          have HOW1 := Lib.hid hown1
          have HGR := Lib.hid hgrow
          have HAT := Lib.hid hat
          clear hown1 hgrow hat
          go_wp2_with fail
          go_region
          have HGR2 : wr.grownBy w1 (atK K k).ownBlock := by rw [HCE.out]; exact ⟨HGR.out.os, HGR.out.tape, HGR.out.output, HGR.out.size, HGR.out.block⟩
          have HG : Hid (GC B (w1.setCell ⟨h, k, none⟩ (.slice av (T.length + (j - i)) cap)) g h wd (K.set k (.slice av (T.length + (j - i)) cap)) (cmid T U (k + 1)) T.length) := Lib.hid ((HM.out.grow hlt (ns := colOf U k) (by rw [colOf_len]; exact HUL.out.symm) (by rw [DC.out, List.map_append]; exact HOW1.out) HGR2 (by rw [HCE.out]; exact HAT.out)).congr (fun q _ => cmid_step))
          have HG2 : Hid (Below B w0 (w1.setCell ⟨h, k, none⟩ (.slice av (T.length + (j - i)) cap))) := Lib.hid ((HW.out.grown HGR2 hBr (fun q hq => ((HM.out.own k hlt).lt q hq).1)).setCell (by exact HM.out.hB) _)
          clear hrun' e1 e2 e3 HGR2 d2 d3 f1 f2 hc1
          go_wp2_with fail
          go_roundw
          case rel => exact ⟨k + 1, _, by omega, by go_num, HG, HG2⟩
          case measure => simp [intOf]; omega
        · have DN : Hid (∀ q u, (D.map (Value.int .i64))[q]? = some u → wr.cell? ((⟨b2, off2 + i, none⟩ : Addr).add q) = some u) := Lib.hid (fun q u hu => by
            rw [show (⟨b2, off2 + i, none⟩ : Addr).add q = ⟨b2, off2 + i + q, none⟩ from by unfold Addr.add; split <;> simp_all]
            exact DA q u hu)
          clear DA
          obtain ⟨av, cap, w1, hrun, hown1, hgrow, hat⟩ := run_append_any (P := Try.prog) wr.drew 33 33 B 2 i1 _ 1 8 Try.underlying33 I'.out Z0'.out Z1'.out Z2'.out rfl (by omega) (.slice ca T.length cc) T.length ((colOf T k).map (Value.int .i64)) HOW.out ⟨b2, off2 + i, none⟩ (j - i) (xc - i) (D.map (Value.int .i64)) DL.out DN.out DO.out (by unfold maxLen; omega) (by omega) hBr
          have hrun' : (appM #[33, 33] 33 #[.slice ca T.length cc, .slice (some ⟨b2, off2 + i, none⟩) (j - i) (xc - i)]).run Try.prog wr.drew = .ok (.slice av (T.length + (j - i)) cap) w1 := hrun
          clear hrun
          have e1 : w1.cell? ⟨g, 2, none⟩ = some (.slice (some ⟨h, 0, none⟩) wd wd) := (hgrow.cell_far ⟨g, 2, none⟩ hgl FAR1.out).trans d2
          have e2 : w1.cell? ⟨h, k, none⟩ = some (.slice ca T.length cc) := (hgrow.cell_far ⟨h, k, none⟩ hhl FAR2.out).trans f1
          have e3 : w1.frozen? ⟨h, k, none⟩ = false := (hgrow.frozen_far ⟨h, k, none⟩ hhl FAR2.out).trans f2
          have HOW1 := Lib.hid hown1
          have HGR := Lib.hid hgrow
          have HAT := Lib.hid hat
          clear hown1 hgrow hat
          go_wp2_with fail
          go_region
          have HGR2 : wr.grownBy w1 (atK K k).ownBlock := by rw [HCE.out]; exact ⟨HGR.out.os, HGR.out.tape, HGR.out.output, HGR.out.size, HGR.out.block⟩
          have HG : Hid (GC B (w1.setCell ⟨h, k, none⟩ (.slice av (T.length + (j - i)) cap)) g h wd (K.set k (.slice av (T.length + (j - i)) cap)) (cmid T U (k + 1)) T.length) := Lib.hid ((HM.out.grow hlt (ns := colOf U k) (by rw [colOf_len]; exact HUL.out.symm) (by rw [DC.out, List.map_append]; exact HOW1.out) HGR2 (by rw [HCE.out]; exact HAT.out)).congr (fun q _ => cmid_step))
          have HG2 : Hid (Below B w0 (w1.setCell ⟨h, k, none⟩ (.slice av (T.length + (j - i)) cap))) := Lib.hid ((HW.out.grown HGR2 hBr (fun q hq => ((HM.out.own k hlt).lt q hq).1)).setCell (by exact HM.out.hB) _)
          clear hrun' e1 e2 e3 HGR2 d2 d3 f1 f2 hc1
          go_wp2_with fail
          go_roundw
          case rel => exact ⟨k + 1, _, by omega, by go_num, HG, HG2⟩
          case measure => simp [intOf]; omega
      · obtain rfl : k = wd := by omega
        have d1 := HM.out.cells.2.1
        have d4 := HM.out.cells.2.2.2
        have HN : Hid ((T.length : Int) + ((j : Int) - (i : Int)) = ((U.length : Nat) : Int)) := Lib.hid (by rw [HUL.out]; omega)
        go_wp2_with fail
        go_end0
        refine ⟨rfl, .inr ⟨h, K, ?_⟩, ?_⟩
        · rw [HN.out]
          exact (HM.out.count U.length).congr (fun q hq => by unfold cmid; rw [if_pos hq])
        · exact HW.out.setCell (by exact HM.out.gB) _
  · have e4 := hGC.cells.2.2.1
    have M0 : Hid (GC B w g h wd K0 (cmid T U 0) T.length) := Lib.hid (hGC.congr (fun k _ => by simp [cmid]))
    have B0 := HBe
    clear hGC
    go_enter Try.func56, Try.ntmps56
    go_wp2_with fail
    go_loopw [27] (fun s wr => ∃ (k : Nat) (K : List Value), k ≤ wd ∧ s = .int .i64 k ∧ Hid (GC B wr g h wd K (cmid T U k) T.length) ∧ Hid (Below B w0 wr)) (fun s _ => wd - (intOf s).toNat)
    case atStart => exact ⟨0, _, Nat.zero_le _, rfl, M0, B0⟩
    case round =>
      clear e4
      obtain ⟨k, K, hk, rfl, HM, HW⟩ := hrel
      have d2 := HM.out.cells.2.2.1
      have hBr : B ≤ wr.heap.size := by have := HW.out.size; rw [HB.out] at this; exact this
      have hgl : g < wr.heap.size := (Array.getElem?_eq_some_iff.1 HM.out.blk).1
      have hhl : h < wr.heap.size := (Array.getElem?_eq_some_iff.1 HM.out.lst).1
      by_cases hlt : k < wd
      · have hmid : cmid T U k k = colOf T k := by unfold cmid; rw [if_neg (by omega)]
        obtain ⟨ca, cc, hce, hcc⟩ := HM.out.shape hlt
        rw [hmid, colOf_len] at hce hcc
        have f1 : wr.cell? ⟨h, k, none⟩ = some (.slice ca T.length cc) := by rw [(HM.out.colCell hlt).1, hce]
        have f2 : wr.frozen? ⟨h, k, none⟩ = false := (HM.out.colCell hlt).2
        have HOW : Hid (wr.ownsRow B 2 1 (.slice ca T.length cc) T.length ((colOf T k).map (Value.int .i64))) := Lib.hid (by have := HM.out.own k hlt; rw [hce, hmid, colOf_len] at this; exact this)
        have FAR1 : Hid (some g ≠ (Value.slice ca T.length cc).ownBlock) := Lib.hid (by rw [← hce]; exact fun e => (HM.out.far k hlt).1 e.symm)
        have FAR2 : Hid (some h ≠ (Value.slice ca T.length cc).ownBlock) := Lib.hid (by rw [← hce]; exact fun e => (HM.out.far k hlt).2 e.symm)
        have HCE := Lib.hid hce
        obtain ⟨_, b1, off1, xa, xc, rfl, hb1, hc1, hrow, hxc⟩ := colAt HO.out.1 (HO.out.2.belowB HB.out HW.out) hlt
        obtain ⟨b2, off2, rfl, hb2, hc2⟩ : ∃ b2 off2, xa = some ⟨b2, off2, none⟩ ∧ b2 < wr.heap.size ∧ ∀ q, q < ys.length → wr.cell? ⟨b2, off2 + q, none⟩ = some (.int .i64 ((colOf ys k)[q]?.getD 0)) := by
          rcases hrow with h9 | ⟨b2, off2, ha, hlt2, hcc⟩
          · have : ys.length = 0 := by rw [← colOf_len ys k, h9]; rfl
            omega
          · exact ⟨b2, off2, ha, hlt2, fun q hq => hcc q (by rw [colOf_len]; exact hq)⟩
        obtain ⟨D, hD⟩ : ∃ D, ((colOf ys k).drop i).take (j - i) = D := ⟨_, rfl⟩
        have DC : Hid (colOf U k = colOf T k ++ D) := Lib.hid (by rw [HCC.out, hD])
        have DLn : D.length = j - i := by rw [← hD, List.length_take, List.length_drop, colOf_len]; omega
        have DL : Hid ((D.map (Value.int .i64)).length = (j - i) * 1) := Lib.hid (by simp; exact DLn)
        have DL2 := Lib.hid DLn
        have DO : Hid (∀ u ∈ D.map (Value.int .i64), u.oneCell' = true) := Lib.hid (fun u hu => by obtain ⟨y, _, rfl⟩ := List.mem_map.1 hu; rfl)
        have DA : ∀ q u, (D.map (Value.int .i64))[q]? = some u → wr.cell? ⟨b2, off2 + i + q, none⟩ = some u := fun q u hu => by
          have hq : q < D.length := by
            rcases Nat.lt_or_ge q D.length with h | h
            · exact h
            · rw [List.getElem?_eq_none (by simpa using h)] at hu; cases hu
          rw [Nat.add_assoc, hc2 (i + q) (by omega), ← hu, ← hD]
          have h5 : i + q < (colOf ys k).length := by rw [colOf_len]; omega
          rw [List.getElem?_map, List.getElem?_take_of_lt (by omega), List.getElem?_drop, List.getElem?_eq_getElem h5]
          rfl
        have hxc' : ys.length ≤ xc := by omega
        have d3 : wr.cell? ⟨og, 2, none⟩ = some (.slice (some ⟨b1, off1, none⟩) wd oc) := (HW.out.cell (p := ⟨og, 2, none⟩) hol).trans HC2.out
        have x1 : (i : Int) ≤ (j : Int) := by omega
        have x2 : (j : Int) ≤ (xc : Int) := by omega
        have x3 : (0 : Int) ≤ (i : Int) := by omega
        have x4 : (k : Int) < (wd : Int) := by omega
        have x5 : (0 : Int) ≤ (k : Int) := by omega
        clear hrow hc2 hD DLn hmid hce
        by_cases hxf : xc = i
        · have hji : j = i := by omega
          have DN : Hid (∀ q u, (D.map (Value.int .i64))[q]? = some u → wr.cell? ((⟨b2, off2, none⟩ : Addr).add q) = some u) := Lib.hid (fun q u hu => by
            have h0 : D = [] := List.eq_nil_of_length_eq_zero (by have := DL2.out; omega)
            rw [h0] at hu; simp at hu)
          clear DA hji
          obtain rfl : i = xc := hxf.symm
          obtain ⟨av, cap, w1, hrun, hown1, hgrow, hat⟩ := run_append_any (P := Try.prog) wr.drew 33 33 B 2 i1 _ 1 8 Try.underlying33 I'.out Z0'.out Z1'.out Z2'.out rfl (by omega) (.slice ca T.length cc) T.length ((colOf T k).map (Value.int .i64)) HOW.out ⟨b2, off2, none⟩ (j - i) 0 (D.map (Value.int .i64)) DL.out DN.out DO.out (by unfold maxLen; omega) (by omega) hBr
          have hrun' : (appM #[33, 33] 33 #[.slice ca T.length cc, .slice (some ⟨b2, off2, none⟩) (j - i) 0]).run Try.prog wr.drew = .ok (.slice av (T.length + (j - i)) cap) w1 := hrun
          clear hrun
          have e1 : w1.cell? ⟨g, 2, none⟩ = some (.slice (some ⟨h, 0, none⟩) wd wd) := (hgrow.cell_far ⟨g, 2, none⟩ hgl FAR1.out).trans d2
          have e2 : w1.cell? ⟨h, k, none⟩ = some (.slice ca T.length cc) := (hgrow.cell_far ⟨h, k, none⟩ hhl FAR2.out).trans f1
          have e3 : w1.frozen? ⟨h, k, none⟩ = false := (hgrow.frozen_far ⟨h, k, none⟩ hhl FAR2.out).trans f2
          have HOW1 := Lib.hid hown1
          have HGR := Lib.hid hgrow
          have HAT := Lib.hid hat
          clear hown1 hgrow hat
          go_wp2_with fail
          go_region
          have HGR2 : wr.grownBy w1 (atK K k).ownBlock := by rw [HCE.out]; exact ⟨HGR.out.os, HGR.out.tape, HGR.out.output, HGR.out.size, HGR.out.block⟩
          have HG : Hid (GC B (w1.setCell ⟨h, k, none⟩ (.slice av (T.length + (j - i)) cap)) g h wd (K.set k (.slice av (T.length + (j - i)) cap)) (cmid T U (k + 1)) T.length) := Lib.hid ((HM.out.grow hlt (ns := colOf U k) (by rw [colOf_len]; exact HUL.out.symm) (by rw [DC.out, List.map_append]; exact HOW1.out) HGR2 (by rw [HCE.out]; exact HAT.out)).congr (fun q _ => cmid_step))
          have HG2 : Hid (Below B w0 (w1.setCell ⟨h, k, none⟩ (.slice av (T.length + (j - i)) cap))) := Lib.hid ((HW.out.grown HGR2 hBr (fun q hq => ((HM.out.own k hlt).lt q hq).1)).setCell (by exact HM.out.hB) _)
          clear hrun' e1 e2 e3 HGR2 d2 d3 f1 f2 hc1
          go_wp2_with fail
          go_roundw
          case rel => exact ⟨k + 1, _, by omega, by go_num, HG, HG2⟩
          case measure => simp [intOf]; omega
        · have DN : Hid (∀ q u, (D.map (Value.int .i64))[q]? = some u → wr.cell? ((⟨b2, off2 + i, none⟩ : Addr).add q) = some u) := Lib.hid (fun q u hu => by
            rw [show (⟨b2, off2 + i, none⟩ : Addr).add q = ⟨b2, off2 + i + q, none⟩ from by unfold Addr.add; split <;> simp_all]
            exact DA q u hu)
          clear DA
          obtain ⟨av, cap, w1, hrun, hown1, hgrow, hat⟩ := run_append_any (P := Try.prog) wr.drew 33 33 B 2 i1 _ 1 8 Try.underlying33 I'.out Z0'.out Z1'.out Z2'.out rfl (by omega) (.slice ca T.length cc) T.length ((colOf T k).map (Value.int .i64)) HOW.out ⟨b2, off2 + i, none⟩ (j - i) (xc - i) (D.map (Value.int .i64)) DL.out DN.out DO.out (by unfold maxLen; omega) (by omega) hBr
          have hrun' : (appM #[33, 33] 33 #[.slice ca T.length cc, .slice (some ⟨b2, off2 + i, none⟩) (j - i) (xc - i)]).run Try.prog wr.drew = .ok (.slice av (T.length + (j - i)) cap) w1 := hrun
          clear hrun
          have e1 : w1.cell? ⟨g, 2, none⟩ = some (.slice (some ⟨h, 0, none⟩) wd wd) := (hgrow.cell_far ⟨g, 2, none⟩ hgl FAR1.out).trans d2
          have e2 : w1.cell? ⟨h, k, none⟩ = some (.slice ca T.length cc) := (hgrow.cell_far ⟨h, k, none⟩ hhl FAR2.out).trans f1
          have e3 : w1.frozen? ⟨h, k, none⟩ = false := (hgrow.frozen_far ⟨h, k, none⟩ hhl FAR2.out).trans f2
          have HOW1 := Lib.hid hown1
          have HGR := Lib.hid hgrow
          have HAT := Lib.hid hat
          clear hown1 hgrow hat
          go_wp2_with fail
          go_region
          have HGR2 : wr.grownBy w1 (atK K k).ownBlock := by rw [HCE.out]; exact ⟨HGR.out.os, HGR.out.tape, HGR.out.output, HGR.out.size, HGR.out.block⟩
          have HG : Hid (GC B (w1.setCell ⟨h, k, none⟩ (.slice av (T.length + (j - i)) cap)) g h wd (K.set k (.slice av (T.length + (j - i)) cap)) (cmid T U (k + 1)) T.length) := Lib.hid ((HM.out.grow hlt (ns := colOf U k) (by rw [colOf_len]; exact HUL.out.symm) (by rw [DC.out, List.map_append]; exact HOW1.out) HGR2 (by rw [HCE.out]; exact HAT.out)).congr (fun q _ => cmid_step))
          have HG2 : Hid (Below B w0 (w1.setCell ⟨h, k, none⟩ (.slice av (T.length + (j - i)) cap))) := Lib.hid ((HW.out.grown HGR2 hBr (fun q hq => ((HM.out.own k hlt).lt q hq).1)).setCell (by exact HM.out.hB) _)
          clear hrun' e1 e2 e3 HGR2 d2 d3 f1 f2 hc1
          go_wp2_with fail
          go_roundw
          case rel => exact ⟨k + 1, _, by omega, by go_num, HG, HG2⟩
          case measure => simp [intOf]; omega
      · obtain rfl : k = wd := by omega
        have d1 := HM.out.cells.2.1
        have d4 := HM.out.cells.2.2.2
        have HN : Hid ((T.length : Int) + ((j : Int) - (i : Int)) = ((U.length : Nat) : Int)) := Lib.hid (by rw [HUL.out]; omega)
        go_wp2_with fail
        go_end0
        refine ⟨rfl, .inr ⟨h, K, ?_⟩, ?_⟩
        · rw [HN.out]
          exact (HM.out.count U.length).congr (fun q hq => by unfold cmid; rw [if_pos hq])
        · exact HW.out.setCell (by exact HM.out.gB) _
end Go.Proofs.Ytepkmhcchmladaa
