/- best's add. Written by mkbs6.py. -/
import Derived.Test.YtcecndjkfdaaaaaBs5
namespace Go.Proofs.Ytcecndjkfdaaaaa
open Go.RowKit Go.Maps
set_option linter.unusedVariables false
set_option linter.unusedSimpArgs false

/-- N, and what was made since. -/
def NN (N : Nat → Prop) (B E : Nat) : Nat → Prop := fun x => N x ∨ (B ≤ x ∧ x < E)
/-- Behind the making of the map. -/
theorem BS.mapped {N : Nat → Prop} {w : World} {g wd : Nat} {great : Bool} {tv : Value} (h : BS N w g wd great [] [] tv (.map none)) :
    BS (NN N w.heap.size (w.heap.size + 1)) ((w.alloc (.map #[] 0)).setCell ⟨g, 3, none⟩ (.map (some w.heap.size))) g wd great [] [] tv (.map (some w.heap.size)) ∧
    ((w.alloc (.map #[] 0)).setCell ⟨g, 3, none⟩ (.map (some w.heap.size))).ownsMap Try.prog 9 (plainElem (H := Unit) Try.prog 3) w.heap.size 0 (.map []) ∧
    Keeps N w ((w.alloc (.map #[] 0)).setCell ⟨g, 3, none⟩ (.map (some w.heap.size))) ∧
    (w.alloc (.map #[] 0)).cell? ⟨g, 3, none⟩ = some (.map none) ∧ (w.alloc (.map #[] 0)).frozen? ⟨g, 3, none⟩ = false := by
  have hgl : g < w.heap.size := h.lt g h.gN
  have hgA : (w.alloc (.map #[] 0)).heap[g]? = some (.cells #[.int .i64 wd, .bool great, tv, .map none] 86 (0, 0)) := (Below.heap_alloc w _ g hgl).trans h.cells
  have gr : (w.alloc (.map #[] 0)).grownBy ((w.alloc (.map #[] 0)).setCell ⟨g, 3, none⟩ (.map (some w.heap.size))) (some g) := ⟨rfl, rfl, rfl, by simp, fun k _ hk => heap_setCell_other _ ⟨g, 3, none⟩ k _ (fun e => hk (by rw [e]))⟩
  have hm : ((w.alloc (.map #[] 0)).setCell ⟨g, 3, none⟩ (.map (some w.heap.size))).ownsMap Try.prog 9 (plainElem (H := Unit) Try.prog 3) w.heap.size 0 (.map []) :=
    (World.ownsMap_made w Try.prog 9 _).kept gr (fun e => by simp at e; omega)
  refine ⟨⟨.inl h.gN, heap_setCell_same _ g 3 _ 86 _ hgA, (h.list.alloc _).kept gr (.inr (own_ne_cells h.list h.cells (by decide))), fun k hk => .inl (h.listN k hk), h.cont, (fun x hx => by cases hx), (fun x hx => by cases hx), h.dis, h.ok, .inr ⟨w.heap.size, .map [], rfl, .inr ⟨Nat.le_refl _, Nat.lt_succ_self _⟩, hm, mapReads_nil⟩, ?_⟩, hm, ((Keeps.refl N w).alloc _).setCell h.gN _, ?_, ?_⟩
  · intro k hk
    simp
    rcases hk with hk | hk
    · have := h.lt k hk; omega
    · omega
  · rw [cell_of_row _ g 3 _ 86 (0, 0) hgA]; rfl
  · exact frozen_of_row _ g 3 _ 86 hgA
/-- Behind the store into the map. -/
theorem BS.updated {N : Nat → Prop} {w wC : World} {g wd : Nat} {great : Bool} {es : List Ent} {L : List RV} {tv : Value} {b n : Nat} {D D' : DataW Unit} (h : BS N w g wd great es L tv (.map (some b))) (hm : w.ownsMap Try.prog 9 (plainElem Try.prog 3) b n D) (hgr : w.grownBy wC (some b)) :
    wC.heap[g]? = some (.cells #[.int .i64 wd, .bool great, tv, .map (some b)] 86 (0, 0)) ∧ wC.ownsRow 0 40 1 tv L.length (L.map encV) ∧ (∀ x ∈ L, wC.ownsRow 0 2 1 (encV x) x.2.1.length (x.2.1.map (Value.int .i64))) ∧ wC.cell? ⟨g, 2, none⟩ = some tv := by
  have hg : wC.heap[g]? = some (.cells #[.int .i64 wd, .bool great, tv, .map (some b)] 86 (0, 0)) := (hgr.block g (h.lt g h.gN) (fun e => cells_ne_map h.cells hm (by cases e; rfl))).trans h.cells
  refine ⟨hg, h.list.kept hgr (.inr (own_ne_map h.list hm)), fun x hx => (h.rows x hx).kept hgr (.inr (own_ne_map (h.rows x hx) hm)), ?_⟩
  rw [cell_of_row wC g 2 _ 86 (0, 0) hg]; rfl
/-- Behind the append and its store. -/
theorem BS.added {N : Nat → Prop} {B0 : Nat} {w wC w1 : World} {g wd : Nat} {great : Bool} {es : List Ent} {L : List RV} {tv v' : Value} {b r : Nat} {D : DataW Unit} {k : List Int} {c : Int} {o : Obj}
    (h : BS N w g wd great es L tv (.map (some b))) (hm : w.ownsMap Try.prog 9 (plainElem Try.prog 3) b es.length D) (hbN : N b) (hD : MapReads D (textsE es)) (hB0 : B0 ≤ w.heap.size)
    (hr : w.ownsRow 0 2 1 (.slice (some ⟨r, 0, none⟩) (wd + 1) (wd + 1)) (wd + 1) ((rowE (k, c)).map (Value.int .i64))) (hrN : ¬ N r) (hBr : B0 ≤ r)
    (hkl : k.length = wd) (hkr : InRange k) (hlk : lookE es k = none)
    (hmC : wC.ownsMap Try.prog 9 (plainElem Try.prog 3) b (es.length + 1) (D.put (key (keyText k)) (.lit (.int .i64 es.length)))) (hgr : w.grownBy wC (some b))
    (hown : w1.ownsRow 0 40 1 v' (L.length + 1) (L.map encV ++ [.slice (some ⟨r, 0, none⟩) (wd + 1) (wd + 1)])) (hgrow : (wC.alloc o).grownBy w1 tv.ownBlock) (hat : v'.ownBlock = tv.ownBlock ∨ v'.ownBlock = some (wC.heap.size + 1)) :
    w1.heap[g]? = some (.cells #[.int .i64 wd, .bool great, tv, .map (some b)] 86 (0, 0)) ∧ BS (NN N B0 w1.heap.size) (w1.setCell ⟨g, 2, none⟩ v') g wd great (es ++ [(k, c)]) (L ++ [(some ⟨r, 0, none⟩, rowE (k, c), wd + 1)]) v' (.map (some b)) ∧ Keeps (fun x => N x ∨ B0 ≤ x) w (w1.setCell ⟨g, 2, none⟩ v') := by
  obtain ⟨hgC, hlC, hrC, _⟩ := h.updated (D' := D) hm hgr
  have hrowC := hr.kept hgr (.inr (own_ne_map hr hm))
  have hlen9 : (rowE (k, c)).length = wd + 1 := by simp [rowE, hkl]
  have hgl : g < wC.heap.size := (Array.getElem?_eq_some_iff.1 hgC).1
  have sz1 : wC.heap.size ≤ w1.heap.size := by have := hgrow.size; simp at this; omega
  have szC := hgr.size
  have hgA : (wC.alloc o).heap[g]? = some (.cells #[.int .i64 wd, .bool great, tv, .map (some b)] 86 (0, 0)) := (Below.heap_alloc wC o g hgl).trans hgC
  have hg1 : w1.heap[g]? = some (.cells #[.int .i64 wd, .bool great, tv, .map (some b)] 86 (0, 0)) := (hgrow.block g (by simp; omega) (Ne.symm (own_ne_cells hlC hgC (by decide)))).trans hgA
  have hm1 := (hmC.alloc o).kept hgrow (Ne.symm (own_ne_map hlC hmC))
  have rows1 : ∀ x ∈ L, w1.ownsRow 0 2 1 (encV x) x.2.1.length (x.2.1.map (Value.int .i64)) := fun x hx => ((hrC x hx).alloc o).kept hgrow (.inr (fun e => by
    cases hb : (encV x).ownBlock with
    | none => rw [hb] at e; rcases hlC.2 with ⟨h1, _⟩ | ⟨r1, c1, cu1, h1, _⟩
              · rcases (hrC x hx).2 with ⟨h2, h3⟩ | ⟨r2, c2, cu2, h2, _⟩
                · have h5 : x.2.1 ∈ es.map rowE := by rw [← h.cont]; exact List.mem_map_of_mem hx
                  obtain ⟨e5, _, h6⟩ := List.mem_map.1 h5
                  rw [← h6] at h3; simp [rowE] at h3
                · rw [h2] at hb; simp [Value.ownBlock] at hb
              · rw [h1] at e; simp [Value.ownBlock] at e
    | some q => rw [hb] at e; exact own_ne_own (hrC x hx) hlC (by decide) q hb e.symm))
  have row1 := (hrowC.alloc o).kept hgrow (.inr (fun e => own_ne_own hrowC hlC (by decide) r rfl e.symm))
  have gs : w1.grownBy (w1.setCell ⟨g, 2, none⟩ v') (some g) := ⟨rfl, rfl, rfl, by simp, fun k _ hk => heap_setCell_other w1 ⟨g, 2, none⟩ k v' (fun e => hk (by rw [e]))⟩
  have hlt : ∀ x, N x → x < w1.heap.size := fun x hx => by have := h.lt x hx; omega
  have hrlt : r < w.heap.size := (hr.lt r rfl).2
  have hv' : ∀ q, v'.ownBlock = some q → NN N B0 w1.heap.size q := fun q hq => by
    have hq1 := (hown.lt q hq).2
    rcases hat with e | e
    · exact .inl (h.listN q (e ▸ hq))
    · refine .inr ⟨?_, hq1⟩
      rw [e] at hq; cases hq; omega
  refine ⟨hg1, ⟨.inl h.gN, heap_setCell_same w1 g 2 _ 86 v' hg1, ?_, hv', ?_, ?_, ?_, ?_, ?_, .inr ⟨b, D.put (key (keyText k)) (.lit (.int .i64 es.length)), rfl, .inl hbN, ?_, ?_⟩, ?_⟩, ?_⟩
  · rw [List.length_append, List.map_append]
    have e9 : encV (some ⟨r, 0, none⟩, rowE (k, c), wd + 1) = .slice (some ⟨r, 0, none⟩) (wd + 1) (wd + 1) := by simp [encV, hlen9]
    simp only [List.map_cons, List.map_nil, e9]
    exact hown.kept gs (.inr (own_ne_cells hown hg1 (by decide)))
  · rw [List.map_append, List.map_append, h.cont]; rfl
  · intro x hx
    rcases List.mem_append.1 hx with hx | hx
    · exact (rows1 x hx).kept gs (.inr (own_ne_cells (rows1 x hx) hg1 (by decide)))
    · obtain rfl : x = (some ⟨r, 0, none⟩, rowE (k, c), wd + 1) := by simpa using hx
      have := row1.kept gs (.inr (own_ne_cells row1 hg1 (by decide)))
      show World.ownsRow _ 0 2 1 (.slice (some ⟨r, 0, none⟩) (rowE (k, c)).length (wd + 1)) (rowE (k, c)).length _
      rw [hlen9]
      exact this
  · intro x hx q hq
    rcases List.mem_append.1 hx with hx | hx
    · exact .inl (h.rowsN x hx q hq)
    · obtain rfl : x = (some ⟨r, 0, none⟩, rowE (k, c), wd + 1) := by simpa using hx
      simp only [encV, Value.ownBlock, Option.some.injEq] at hq
      subst hq
      exact .inr ⟨hBr, by omega⟩
  · unfold Disj
    rw [List.map_append, List.pairwise_append]
    refine ⟨h.dis, by simp, fun u hu v hv q hq e => ?_⟩
    obtain ⟨x, hx, rfl⟩ := List.mem_map.1 hu
    obtain rfl : v = encV (some ⟨r, 0, none⟩, rowE (k, c), wd + 1) := by simpa using hv
    simp only [encV, Value.ownBlock, Option.some.injEq] at e
    subst e
    exact hrN (h.rowsN x hx _ hq)
  · rw [← upd_new hlk]
    refine ⟨dist_upd h.ok.dist k c, (fun e he => ?_), (fun e he => ?_)⟩
    · rcases mem_upd he with rfl | he
      · exact hkl
      · exact h.ok.len e he
    · rcases mem_upd he with rfl | he
      · exact hkr
      · exact h.ok.rng e he
  · rw [List.length_append]
    exact hm1.kept gs (fun e => cells_ne_map hg1 hm1 (by cases e; rfl))
  · have e1 : textsE (es ++ [(k, c)]) = textsE es ++ [keyText k] := by simp [textsE]
    have e2 : es.length = (textsE es).length := by simp [textsE]
    rw [e1, e2]
    exact hD.put (by rw [mem_ts h.ok.rng hkr, hlk]; rfl)
  · intro q hq
    simp
    rcases hq with hq | hq
    · exact hlt q hq
    · exact hq.2
  · have k1 : Keeps (fun x => N x ∨ B0 ≤ x) w wC := Keeps.of_grown hgr (fun q hq => by cases hq; exact .inl hbN)
    have k2 : Keeps (fun x => N x ∨ B0 ≤ x) wC w1 := ((Keeps.refl _ wC).alloc o).trans (Keeps.of_grown hgrow (fun q hq => .inl (h.listN q hq)))
    exact (k1.trans k2).setCell (.inl h.gN) _
theorem updH {wC : World} {g wd : Nat} {great : Bool} {L : List RV} {tv mv : Value} {ta : Option Addr} {tc n : Nat} (htv : tv = .slice ta L.length tc) (hle : L.length = n)
    (h : wC.heap[g]? = some (.cells #[.int .i64 wd, .bool great, tv, mv] 86 (0, 0)) ∧ wC.ownsRow 0 40 1 tv L.length (L.map encV) ∧ (∀ x ∈ L, wC.ownsRow 0 2 1 (encV x) x.2.1.length (x.2.1.map (Value.int .i64))) ∧ wC.cell? ⟨g, 2, none⟩ = some tv) :
    Hid (wC.ownsRow 0 40 1 (.slice ta n tc) n (L.map encV)) ∧ wC.cell? ⟨g, 2, none⟩ = some (.slice ta n tc) := by
  subst hle htv; exact ⟨Lib.hid h.2.1, h.2.2.2⟩
theorem eqlSome (b : Nat) (w : World) : (binOp .eql 84 (.map (some b)) (.map none)).run Try.prog w = .ok (.bool false) w := by kernel_rfl
theorem eqlNil (w : World) : (binOp .eql 84 (.map none) (.map none)).run Try.prog w = .ok (.bool true) w := by kernel_rfl
theorem ret_i64 {a b : Int} (h : a = b) : Ending.returned (.int .i64 a) = .returned (.int .i64 b) := by rw [h]
def AddRet (N : Nat → Prop) (g wd : Nat) (great : Bool) (es : List Ent) (k : List Int) (c : Int) (w : World) (e : Ending) (w' : World) : Prop :=
  e = .returned (.int .i64 es.length) ∧ Bst (NN N w.heap.size w'.heap.size) w' g wd great (es ++ [(k, c)]) ∧ Keeps N w w'
theorem row_cells {w : World} {a : Option Addr} {zs : List Int} (h : Row w a zs) (h0 : 0 < zs.length) : ∃ ad, a = some ad ∧ ∀ j v, (zs.map (Value.int .i64))[j]? = some v → w.cell? (ad.add j) = some v := by
  rcases h with rfl | ⟨b, off, rfl, hlt, hc⟩
  · simp at h0
  · refine ⟨_, rfl, fun j v hj => ?_⟩
    rw [List.getElem?_map] at hj
    have hjl : j < zs.length := by
      rcases Nat.lt_or_ge j zs.length with h | h
      · exact h
      · rw [List.getElem?_eq_none h] at hj; cases hj
    have := hc j hjl
    rw [List.getElem?_eq_getElem hjl] at hj this
    simp only [Option.map_some, Option.some.injEq, Option.getD_some] at hj this
    rw [show (⟨b, off, none⟩ : Addr).add j = ⟨b, off + j, none⟩ by simp only [Addr.add]; split <;> simp_all, this, hj]
theorem Row.setNot {w : World} {a : Option Addr} {zs : List Int} (h : Row w a zs) {q : Addr} {v : Value} (hq : w.cell? q = some v) (hv : ∀ z, v ≠ .int .i64 z) (u : Value) : Row (w.setCell q u) a zs := by
  rcases h with rfl | ⟨b, off, rfl, hlt, hc⟩
  · exact .inl rfl
  · refine .inr ⟨b, off, rfl, by simpa using hlt, fun i hi => ?_⟩
    have hne : (⟨b, off + i, none⟩ : Addr) ≠ q := fun e => by
      have h1 := hc i hi
      rw [e, hq] at h1
      simp only [Option.some.injEq] at h1
      exact hv _ h1
    rw [World.cell?_setCell_other _ _ _ _ (Ne.symm hne)]
    exact hc i hi
/-- The new row behind the copy. -/
theorem spliced (wd : Nat) {k : List Int} (hk : k.length = wd) : splice ((madeCells #[Value.int .i64 0] (wd + 1)).toList) 0 (k.map (Value.int .i64)) = (k ++ [0]).map (Value.int .i64) := by
  rw [made_ints]
  simp [splice, hk, List.replicate_succ']
theorem row_heap {w : World} {base : Nat} {t : TypeId} {g n : Nat} {xs : List Value} (h : w.ownsRow base t 1 (.slice (some ⟨g, 0, none⟩) n n) n xs) : w.heap[g]? = some (.cells xs.toArray t (0, 0)) := by
  rcases h.2 with ⟨h', _⟩ | ⟨g', cap', cur, h', _, hg, hn, _, hcs, ht⟩
  · simp at h'
  · simp only [Value.slice.injEq, Option.some.injEq, Addr.mk.injEq, and_true, true_and] at h'
    obtain ⟨rfl, rfl⟩ := h'
    rw [hg, ← ht, List.take_of_length_le (by simp; omega)]
theorem heap_row {w : World} {t : TypeId} {g n : Nat} {xs : List Value} (h : w.heap[g]? = some (.cells xs.toArray t (0, 0))) (hn : xs.length = n) (hm : n ≤ maxLen) : w.ownsRow 0 t 1 (.slice (some ⟨g, 0, none⟩) n n) n xs :=
  ⟨by omega, .inr ⟨g, n, xs.toArray, rfl, Nat.zero_le _, h, Nat.le_refl _, hm, by simpa using hn, by rw [Nat.mul_one]; exact List.take_of_length_le (by simp; omega)⟩⟩
theorem info2s : (Try.prog.info? 2).map (·.size) = some 1 := by kernel_rfl
set_option maxRecDepth 100000 in
set_option maxHeartbeats 2000000 in
theorem add_some {N : Nat → Prop} {w : World} {g wd : Nat} {great : Bool} {es : List Ent} {L : List RV} {tv : Value} {b : Nat} (h : BS N w g wd great es L tv (.map (some b))) (ka : Option Addr) (kc : Nat) (key1 : List Int) (cost : Int) (hk : Row w ka key1) (hkl : key1.length = wd) (hkr : InRange key1) (hwd : wd ≤ 100) (hel : es.length ≤ 100000) (hlk : lookE es key1 = none) :
    Calls Try.prog 67 #[.pointer (some ⟨g, 0, none⟩), .string (keyText key1), .slice ka key1.length kc, .int .i64 cost] w (AddRet N g wd great es key1 cost w) := by
  obtain ⟨i1, hi', hz0', hz1', hz2'⟩ := info_parts info2
  have I' := Lib.hid hi'
  have Z0' := Lib.hid hz0'
  have Z1' := Lib.hid hz1'
  have Z2' := Lib.hid hz2'
  obtain ⟨i0, hi, hz0, hz1, hz2⟩ := info_parts info23
  have I := Lib.hid hi
  have Z0 := Lib.hid hz0
  have Z1 := Lib.hid hz1
  have Z2 := Lib.hid hz2
  clear hi hz0 hz1 hz2 hi' hz0' hz1' hz2'
  have HKY : Hid (keyOf Try.prog 9 (.string (keyText key1)) = some (key (keyText key1))) := Lib.hid (WideMaps.keyOf_string_mk Try.underlying9 (keyText_size (by omega)))
  have HLK := Lib.hid hlk
  have HNlt := Lib.hid h.lt
  obtain ⟨B0, hB0⟩ : ∃ B0, w.heap.size = B0 := ⟨_, rfl⟩
  have HB0 := Lib.hid hB0
  have HK0 := Lib.hid hk
  clear hlk hk hB0
  have MPe : ∃ D, N b ∧ w.ownsMap Try.prog 9 (plainElem Try.prog 3) b es.length D ∧ MapReads D (textsE es) := by
    rcases h.map with ⟨e1, _⟩ | ⟨b', D, e1, h1, h2, h3⟩
    · cases e1
    · cases e1; exact ⟨D, h1, h2, h3⟩
  obtain ⟨D, hMP⟩ := MPe
  have MP := Lib.hid hMP
  have S := Lib.hid h
  have heq := eqlSome b
  obtain ⟨c0, c1, c2, c3⟩ := h.c
  clear hMP h
  have KW : Hid (Keeps (fun x => N x ∨ B0 ≤ x) w w) := Lib.hid (Keeps.refl _ _)
  have HK := HK0
  have HN1 : Hid (∀ x, N x → N x ∨ (B0 ≤ x ∧ x < w.heap.size)) := Lib.hid (fun x hx => .inl hx)
  go_enter Try.func67, Try.ntmps67
  go_upto_region 3 with fail
  clear c0 c1 c2 c3 heq
  have hWm : B0 ≤ w.heap.size := Nat.le_trans (Nat.le_of_eq HB0.out.symm) KW.out.size
  obtain ⟨C, hC⟩ : ∃ C, w.heap.size = C := ⟨_, rfl⟩
  have HC := Lib.hid hC
  have hBC : B0 ≤ C := by rw [← hC]; exact hWm
  obtain ⟨c0, c1, c2, c3⟩ := S.out.c
  clear hC
  go_wp2_with (first | (refine wpList_make_full _ rfl _ _ 40 rfl 0 2 i1 (.int .i64 0) 1 Try.underlying40 I'.out Z0'.out Z1'.out .i64 .i64 _ _ (wd + 1) rfl rfl ?la1 ?la2 ?la3 ?la4 ?la5 ?_))
  case la1 => omega
  case la2 => omega
  case la3 => rw [Z2'.out]; omega
  case la4 => unfold maxLen; omega
  case la5 => omega
  intro X hownX hgrX
  rw [HC.out] at hownX ⊢
  have BX : Hid (Below C w X) := Lib.hid (grown_below hgrX (by rw [HC.out]; exact Nat.le_refl _))
  have HX : Hid (X.heap[C]? = some (.cells ((madeCells #[Value.int .i64 0] (wd + 1)).toList).toArray 2 (0, 0))) := Lib.hid (row_heap hownX)
  have KX : Hid (0 < key1.length → ∃ ad, ka = some ad ∧ ∀ j v, (key1.map (Value.int .i64))[j]? = some v → X.cell? (ad.add j) = some v) := Lib.hid (fun h0 => row_cells (HK.out.belowB HC.out BX.out) h0)
  obtain ⟨K1, hK1⟩ : ∃ K1, K1 = key1.map (Value.int .i64) := ⟨_, rfl⟩
  have HK1 := Lib.hid hK1
  rw [← hK1] at KX
  have hK1l : K1.length = wd := by rw [hK1]; simp [hkl]
  have h1c : ∀ v ∈ K1, v.oneCell' = true := by rw [hK1]; intro v hv; simp at hv; obtain ⟨z, _, rfl⟩ := hv; rfl
  clear hownX hgrX hK1 c0 c1 c2 c3
  go_wp2_with (first | (with_reducible refine wpList_copy_splice rfl (.tmp 26) (.tmp 27) 40 40 rfl 2 Try.underlying40 info2s _ _ _ _ _ _ rfl rfl C 0 _ 2 HX.out K1 ?pa1 ?pa2 ?pa3 h1c C w BX.out (Nat.le_refl _) ?_))
  case pa1 => rw [hK1l]; exact (Nat.min_eq_left (by omega)).symm
  case pa2 => intro h0; first | exact ⟨rfl, KX.out (by omega)⟩ | exact KX.out (by omega)
  case pa3 => rw [made_ints]; simp; omega
  intro Y HY hbY
  have BY := Lib.hid hbY
  have RY : Hid (Y.ownsRow 0 2 1 (.slice (some ⟨C, 0, none⟩) (wd + 1) (wd + 1)) (wd + 1) ((key1 ++ [0]).map (Value.int .i64))) := Lib.hid (by
    have h5 := HY.out
    rw [HK1.out, spliced wd hkl] at h5
    exact heap_row h5 (by simp [hkl]) (by unfold maxLen; omega))
  clear hbY HY HX KX BX
  have SY := Lib.hid (S.out.below (by rw [HC.out]; exact BY.out))
  obtain ⟨c0, c1, c2, c3⟩ := SY.out.c
  have cw : Y.cell? ⟨C, wd, none⟩ = some (.int .i64 0) := by
    rw [RY.out.cellAt wd (by omega), List.getElem?_map]; simp [← hkl]
  have fw := RY.out.frozenAt wd
  have hgC : g < C := by have := S.out.lt g S.out.gN; rw [HC.out] at this; exact this
  have gneC : ¬ g = C := by omega
  have gneC2 : ¬ C = g := by omega
  have RZ : Hid ((Y.setCell ⟨C, wd, none⟩ (.int .i64 cost)).ownsRow 0 2 1 (.slice (some ⟨C, 0, none⟩) (wd + 1) (wd + 1)) (wd + 1) ((rowE (key1, cost)).map (Value.int .i64))) := Lib.hid (by
    have h5 := (RY.out.stored wd (.int .i64 cost)).1
    rw [← List.map_set, List.set_append_right _ _ (by omega), hkl] at h5
    simpa [rowE] using h5)
  have BZ : Hid (Below C w (Y.setCell ⟨C, wd, none⟩ (.int .i64 cost))) := Lib.hid (BY.out.setCell (p := ⟨C, wd, none⟩) (Nat.le_refl _) _)
  have SZ := Lib.hid (S.out.below (by rw [HC.out]; exact BZ.out))
  have MZ : Hid ((Y.setCell ⟨C, wd, none⟩ (.int .i64 cost)).ownsMap Try.prog 9 (plainElem Try.prog 3) b es.length D) := Lib.hid (map_keeps (N := fun _ => False) MP.out.2.1 (Keeps.of_below (by rw [HC.out]; exact BZ.out)) (fun h => h))
  obtain ⟨d0, d1, d2, d3⟩ := SZ.out.c
  go_upto_region 6 with fail
  clear c0 c1 c2 c3 cw fw RY BY SY
  generalize (Y.setCell ⟨C, wd, none⟩ (.int .i64 cost)) = Z at *
  obtain ⟨ta, tc, htv⟩ := row_form SZ.out.list
  rw [htv] at d2
  have HTV := Lib.hid htv
  clear htv
  have hLE := SZ.out.len
  have HLE := Lib.hid hLE
  rw [hLE] at d2
  clear hLE
  go_wp2_with (first
    | (at_mapUpdate; refine wpList_mapUpdate_own _ rfl _ _ _ 84 rfl 9 3 law Try.underlying84 _ b es.length D rfl MZ.out (by unfold maxLen; omega) _ _ _ rfl rfl HKY.out _ [] (plainElem_int Try.underlying3 (WalkArith.wf_i64 (by omega))) ?_; intro wC hmC hgC2; obtain ⟨U2, u4⟩ := updH HTV.out HLE.out (SZ.out.updated (D' := D) MZ.out hgC2); have MC := Lib.hid hmC; have GC := Lib.hid hgC2; clear hmC hgC2)
    | (at_builtin; refine wpList_append_own_at _ rfl _ _ 22 rfl 0 40 i0 (.slice none 0 0) 1 24 Try.underlying22 I.out Z0.out Z1.out Z2.out rfl (by decide) _ _ _ rfl (U2.out.alloc _) ⟨wC.heap.size, 0, none⟩ 1 1 [.slice (some ⟨C, 0, none⟩) (wd + 1) (wd + 1)] rfl rfl ?aa1 ?aa2 ?aa3 ?aa4 ?aa5 ?_))
  case aa1 => exact cell_one_new wC _ _
  case aa2 => intro u hu; simp at hu; subst hu; rfl
  case aa3 => unfold maxLen; omega
  case aa4 => omega
  case aa5 => simp <;> omega
  intro v' w1 hown' hgrow _ hat
  obtain ⟨a', cap', rfl⟩ := row_form hown'
  obtain ⟨hg1, hS, hKp⟩ := SZ.out.added MZ.out MP.out.1 MP.out.2.2 (B0 := B0) (by have h8 := BZ.out.size; rw [HC.out] at h8; exact Nat.le_trans hBC h8) RZ.out (fun hN => by have := S.out.lt C hN; rw [HC.out] at this; omega) hBC hkl hkr HLK.out MC.out GC.out (by rw [HLE.out]; exact hown') (by rw [HTV.out, HLE.out]; exact hgrow) (by rw [HTV.out, HLE.out]; exact hat)
  have e1 : w1.cell? ⟨g, 2, none⟩ = some (.slice ta es.length tc) := by rw [cell_of_row w1 g 2 _ 86 (0, 0) hg1, HTV.out, HLE.out]; rfl
  have f1 := frozen_of_row w1 g 2 _ 86 hg1
  have HS := Lib.hid hS
  have HKp := Lib.hid hKp
  clear hown' hgrow hat hg1 hS hKp
  go_wp2_with fail
  go_ret
  refine ⟨ret_i64 rfl, ⟨_, _, _, HS.out.mono (fun x hx => ?_) (fun x hx => ?_)⟩, ?_⟩
  · rw [HB0.out]
    simp
    rcases hx with hx | hx
    · rcases HN1.out x hx with hx | hx
      · exact .inl hx
      · refine .inr ⟨hx.1, ?_⟩
        have := HS.out.lt x (.inl (by assumption))
        simpa using this
    · exact .inr hx
  · rw [HB0.out] at hx
    simp at hx
    simp
    rcases hx with hx | hx
    · have h1 := HNlt.out x hx; have h2 := KW.out.size; have h3 := BZ.out.size; have h4 := HKp.out.size; simp at h4; rw [HC.out] at *; omega
    · exact hx.2
  · have k1 : Keeps (fun x => N x ∨ B0 ≤ x) w w := KW.out
    have k2 : Keeps (fun x => N x ∨ B0 ≤ x) w Z := Keeps.of_below (by rw [HC.out]; exact BZ.out)
    have k3 := HKp.out.mono (M := fun x => N x ∨ B0 ≤ x) (fun x _ hx => by
      rcases hx with hx | hx
      · rcases HN1.out x hx with hx | hx
        · exact .inl hx
        · exact .inr hx.1
      · exact .inr hx)
    exact ((k1.trans k2).trans k3).mono (fun x hxl hx => by
      rcases hx with hx | hx
      · exact hx
      · rw [HB0.out] at hxl; omega)
set_option maxRecDepth 100000 in
set_option maxHeartbeats 2000000 in
theorem add_nil {N : Nat → Prop} {w : World} {g wd : Nat} {great : Bool} {tv : Value} (h : BS N w g wd great [] [] tv (.map none)) (ka : Option Addr) (kc : Nat) (key1 : List Int) (cost : Int) (hk : Row w ka key1) (hkl : key1.length = wd) (hkr : InRange key1) (hwd : wd ≤ 100)  (hlk : lookE [] key1 = none) :
    Calls Try.prog 67 #[.pointer (some ⟨g, 0, none⟩), .string (keyText key1), .slice ka key1.length kc, .int .i64 cost] w (AddRet N g wd great [] key1 cost w) := by
  obtain ⟨i1, hi', hz0', hz1', hz2'⟩ := info_parts info2
  have I' := Lib.hid hi'
  have Z0' := Lib.hid hz0'
  have Z1' := Lib.hid hz1'
  have Z2' := Lib.hid hz2'
  obtain ⟨i0, hi, hz0, hz1, hz2⟩ := info_parts info23
  have I := Lib.hid hi
  have Z0 := Lib.hid hz0
  have Z1 := Lib.hid hz1
  have Z2 := Lib.hid hz2
  clear hi hz0 hz1 hz2 hi' hz0' hz1' hz2'
  have HKY : Hid (keyOf Try.prog 9 (.string (keyText key1)) = some (key (keyText key1))) := Lib.hid (WideMaps.keyOf_string_mk Try.underlying9 (keyText_size (by omega)))
  have HLK := Lib.hid hlk
  have HNlt := Lib.hid h.lt
  obtain ⟨B0, hB0⟩ : ∃ B0, w.heap.size = B0 := ⟨_, rfl⟩
  have HB0 := Lib.hid hB0
  have HK0 := Lib.hid hk
  clear hlk hk hB0
  obtain ⟨hS1, hM1, hK1, hc1, hf1⟩ := h.mapped
  have heq := eqlNil
  have hmm := @run_makeMap Try.prog
  obtain ⟨c0, c1, c2, c3⟩ := h.c
  have f3 := frozen_of_row w g 3 _ 86 h.cells
  have S := Lib.hid hS1
  have MP0 := Lib.hid hM1
  have KW : Hid (Keeps (fun x => N x ∨ B0 ≤ x) w ((w.alloc (.map #[] 0)).setCell ⟨g, 3, none⟩ (.map (some w.heap.size)))) := Lib.hid (hK1.mono (fun x _ hx => .inl hx))
  have HN1 : Hid (∀ x, NN N w.heap.size (w.heap.size + 1) x → N x ∨ (B0 ≤ x ∧ x < ((w.alloc (.map #[] 0)).setCell ⟨g, 3, none⟩ (.map (some w.heap.size))).heap.size)) := Lib.hid (fun x hx => by
    rcases hx with hx | hx
    · exact .inl hx
    · exact .inr ⟨by rw [← HB0.out]; exact hx.1, by simp; omega⟩)
  have HK : Hid (Row ((w.alloc (.map #[] 0)).setCell ⟨g, 3, none⟩ (.map (some w.heap.size))) ka key1) := Lib.hid ((HK0.out.alloc _).setNot hc1 (fun z => by simp) _)
  clear hS1 hM1 hK1 h HK0
  go_enter Try.func67, Try.ntmps67
  go_upto_region 3 with fail
  generalize ((w.alloc (.map #[] 0)).setCell ⟨g, 3, none⟩ (.map (some w.heap.size))) = W at *
  obtain ⟨b, hb⟩ : ∃ b, w.heap.size = b := ⟨_, rfl⟩
  have MP : Hid (NN N w.heap.size (w.heap.size + 1) b ∧ W.ownsMap Try.prog 9 (plainElem Try.prog 3) b ([] : List Ent).length (.map []) ∧ MapReads (.map []) (textsE [])) := Lib.hid ⟨.inr ⟨by omega, by omega⟩, by rw [← hb]; exact MP0.out, mapReads_nil⟩
  rw [hb] at S HN1 MP
  obtain ⟨es, hes⟩ : ∃ es : List Ent, [] = es := ⟨_, rfl⟩
  have HES := Lib.hid hes
  obtain ⟨D, hD⟩ : ∃ D : DataW Unit, .map [] = D := ⟨_, rfl⟩
  rw [hes, hD] at MP
  rw [hes] at S HLK
  rw [hes]
  have hel : es.length ≤ 100000 := by rw [← hes]; simp
  clear hb hes hD c0 c1 c2 c3 f3 hc1 hf1 heq hmm MP0
  have hWm : B0 ≤ W.heap.size := Nat.le_trans (Nat.le_of_eq HB0.out.symm) KW.out.size
  obtain ⟨C, hC⟩ : ∃ C, W.heap.size = C := ⟨_, rfl⟩
  have HC := Lib.hid hC
  have hBC : B0 ≤ C := by rw [← hC]; exact hWm
  obtain ⟨c0, c1, c2, c3⟩ := S.out.c
  clear hC
  go_wp2_with (first | (refine wpList_make_full _ rfl _ _ 40 rfl 0 2 i1 (.int .i64 0) 1 Try.underlying40 I'.out Z0'.out Z1'.out .i64 .i64 _ _ (wd + 1) rfl rfl ?lb1 ?lb2 ?lb3 ?lb4 ?lb5 ?_))
  case lb1 => omega
  case lb2 => omega
  case lb3 => rw [Z2'.out]; omega
  case lb4 => unfold maxLen; omega
  case lb5 => omega
  intro X hownX hgrX
  rw [HC.out] at hownX ⊢
  have BX : Hid (Below C W X) := Lib.hid (grown_below hgrX (by rw [HC.out]; exact Nat.le_refl _))
  have HX : Hid (X.heap[C]? = some (.cells ((madeCells #[Value.int .i64 0] (wd + 1)).toList).toArray 2 (0, 0))) := Lib.hid (row_heap hownX)
  have KX : Hid (0 < key1.length → ∃ ad, ka = some ad ∧ ∀ j v, (key1.map (Value.int .i64))[j]? = some v → X.cell? (ad.add j) = some v) := Lib.hid (fun h0 => row_cells (HK.out.belowB HC.out BX.out) h0)
  obtain ⟨K1, hK1⟩ : ∃ K1, K1 = key1.map (Value.int .i64) := ⟨_, rfl⟩
  have HK1 := Lib.hid hK1
  rw [← hK1] at KX
  have hK1l : K1.length = wd := by rw [hK1]; simp [hkl]
  have h1c : ∀ v ∈ K1, v.oneCell' = true := by rw [hK1]; intro v hv; simp at hv; obtain ⟨z, _, rfl⟩ := hv; rfl
  clear hownX hgrX hK1 c0 c1 c2 c3
  go_wp2_with (first | (with_reducible refine wpList_copy_splice rfl (.tmp 26) (.tmp 27) 40 40 rfl 2 Try.underlying40 info2s _ _ _ _ _ _ rfl rfl C 0 _ 2 HX.out K1 ?pb1 ?pb2 ?pb3 h1c C W BX.out (Nat.le_refl _) ?_))
  case pb1 => rw [hK1l]; exact (Nat.min_eq_left (by omega)).symm
  case pb2 => intro h0; first | exact ⟨rfl, KX.out (by omega)⟩ | exact KX.out (by omega)
  case pb3 => rw [made_ints]; simp; omega
  intro Y HY hbY
  have BY := Lib.hid hbY
  have RY : Hid (Y.ownsRow 0 2 1 (.slice (some ⟨C, 0, none⟩) (wd + 1) (wd + 1)) (wd + 1) ((key1 ++ [0]).map (Value.int .i64))) := Lib.hid (by
    have h5 := HY.out
    rw [HK1.out, spliced wd hkl] at h5
    exact heap_row h5 (by simp [hkl]) (by unfold maxLen; omega))
  clear hbY HY HX KX BX
  have SY := Lib.hid (S.out.below (by rw [HC.out]; exact BY.out))
  obtain ⟨c0, c1, c2, c3⟩ := SY.out.c
  have cw : Y.cell? ⟨C, wd, none⟩ = some (.int .i64 0) := by
    rw [RY.out.cellAt wd (by omega), List.getElem?_map]; simp [← hkl]
  have fw := RY.out.frozenAt wd
  have hgC : g < C := by have := S.out.lt g S.out.gN; rw [HC.out] at this; exact this
  have gneC : ¬ g = C := by omega
  have gneC2 : ¬ C = g := by omega
  have RZ : Hid ((Y.setCell ⟨C, wd, none⟩ (.int .i64 cost)).ownsRow 0 2 1 (.slice (some ⟨C, 0, none⟩) (wd + 1) (wd + 1)) (wd + 1) ((rowE (key1, cost)).map (Value.int .i64))) := Lib.hid (by
    have h5 := (RY.out.stored wd (.int .i64 cost)).1
    rw [← List.map_set, List.set_append_right _ _ (by omega), hkl] at h5
    simpa [rowE] using h5)
  have BZ : Hid (Below C W (Y.setCell ⟨C, wd, none⟩ (.int .i64 cost))) := Lib.hid (BY.out.setCell (p := ⟨C, wd, none⟩) (Nat.le_refl _) _)
  have SZ := Lib.hid (S.out.below (by rw [HC.out]; exact BZ.out))
  have MZ : Hid ((Y.setCell ⟨C, wd, none⟩ (.int .i64 cost)).ownsMap Try.prog 9 (plainElem Try.prog 3) b es.length D) := Lib.hid (map_keeps (N := fun _ => False) MP.out.2.1 (Keeps.of_below (by rw [HC.out]; exact BZ.out)) (fun h => h))
  obtain ⟨d0, d1, d2, d3⟩ := SZ.out.c
  go_upto_region 6 with fail
  clear c0 c1 c2 c3 cw fw RY BY SY
  generalize (Y.setCell ⟨C, wd, none⟩ (.int .i64 cost)) = Z at *
  obtain ⟨ta, tc, htv⟩ := row_form SZ.out.list
  rw [htv] at d2
  have HTV := Lib.hid htv
  clear htv
  have hLE := SZ.out.len
  have HLE := Lib.hid hLE
  rw [hLE] at d2
  clear hLE
  go_wp2_with (first
    | (at_mapUpdate; refine wpList_mapUpdate_own _ rfl _ _ _ 84 rfl 9 3 law Try.underlying84 _ b es.length D rfl MZ.out (by unfold maxLen; omega) _ _ _ rfl rfl HKY.out _ [] (plainElem_int Try.underlying3 (WalkArith.wf_i64 (by omega))) ?_; intro wC hmC hgC2; obtain ⟨U2, u4⟩ := updH HTV.out HLE.out (SZ.out.updated (D' := D) MZ.out hgC2); have MC := Lib.hid hmC; have GC := Lib.hid hgC2; clear hmC hgC2)
    | (at_builtin; refine wpList_append_own_at _ rfl _ _ 22 rfl 0 40 i0 (.slice none 0 0) 1 24 Try.underlying22 I.out Z0.out Z1.out Z2.out rfl (by decide) _ _ _ rfl (U2.out.alloc _) ⟨wC.heap.size, 0, none⟩ 1 1 [.slice (some ⟨C, 0, none⟩) (wd + 1) (wd + 1)] rfl rfl ?ab1 ?ab2 ?ab3 ?ab4 ?ab5 ?_))
  case ab1 => exact cell_one_new wC _ _
  case ab2 => intro u hu; simp at hu; subst hu; rfl
  case ab3 => unfold maxLen; omega
  case ab4 => omega
  case ab5 => simp <;> omega
  intro v' w1 hown' hgrow _ hat
  obtain ⟨a', cap', rfl⟩ := row_form hown'
  obtain ⟨hg1, hS, hKp⟩ := SZ.out.added MZ.out MP.out.1 MP.out.2.2 (B0 := B0) (by have h8 := BZ.out.size; rw [HC.out] at h8; exact Nat.le_trans hBC h8) RZ.out (fun hN => by have := S.out.lt C hN; rw [HC.out] at this; omega) hBC hkl hkr HLK.out MC.out GC.out (by rw [HLE.out]; exact hown') (by rw [HTV.out, HLE.out]; exact hgrow) (by rw [HTV.out, HLE.out]; exact hat)
  have e1 : w1.cell? ⟨g, 2, none⟩ = some (.slice ta es.length tc) := by rw [cell_of_row w1 g 2 _ 86 (0, 0) hg1, HTV.out, HLE.out]; rfl
  have f1 := frozen_of_row w1 g 2 _ 86 hg1
  have HS := Lib.hid hS
  have HKp := Lib.hid hKp
  clear hown' hgrow hat hg1 hS hKp
  go_wp2_with fail
  go_ret
  have e0 := HES.out
  subst e0
  refine ⟨ret_i64 rfl, ⟨_, _, _, HS.out.mono (fun x hx => ?_) (fun x hx => ?_)⟩, ?_⟩
  · rw [HB0.out]
    simp
    rcases hx with hx | hx
    · rcases HN1.out x hx with hx | hx
      · exact .inl hx
      · refine .inr ⟨hx.1, ?_⟩
        have := HS.out.lt x (.inl (by assumption))
        simpa using this
    · exact .inr hx
  · rw [HB0.out] at hx
    simp at hx
    simp
    rcases hx with hx | hx
    · have h1 := HNlt.out x hx; have h2 := KW.out.size; have h3 := BZ.out.size; have h4 := HKp.out.size; simp at h4; rw [HC.out] at *; omega
    · exact hx.2
  · have k1 : Keeps (fun x => N x ∨ B0 ≤ x) w W := KW.out
    have k2 : Keeps (fun x => N x ∨ B0 ≤ x) W Z := Keeps.of_below (by rw [HC.out]; exact BZ.out)
    have k3 := HKp.out.mono (M := fun x => N x ∨ B0 ≤ x) (fun x _ hx => by
      rcases hx with hx | hx
      · rcases HN1.out x hx with hx | hx
        · exact .inl hx
        · exact .inr hx.1
      · exact .inr hx)
    exact ((k1.trans k2).trans k3).mono (fun x hxl hx => by
      rcases hx with hx | hx
      · exact hx
      · rw [HB0.out] at hxl; omega)
end Go.Proofs.Ytcecndjkfdaaaaa
