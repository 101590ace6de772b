import Derived.Test.YtfpocoaddmgakaaHp1
import Derived.Test.YtfpocoaddmgakaaRw
import Derived.OwnWalk
/- Lists of rows in memory. -/
namespace Go.Proofs.Ytfpocoaddmgakaa
open Go.RowKit
set_option linter.unusedVariables false
set_option linter.unusedSimpArgs false

/-- A row as a value: its address, its numbers, its capacity. -/
abbrev RV := Option Addr × List Int × Nat
def encV (x : RV) : Value := .slice x.1 x.2.1.length x.2.2
def RVok (w : World) (x : RV) : Prop := Row w x.1 x.2.1 ∧ x.2.1.length ≤ 1000000
theorem RVok.below {w w' : World} {x : RV} (h : RVok w x) (hb : Below w.heap.size w w') : RVok w' x := ⟨h.1.below hb, h.2⟩

def atV (L : List RV) (i : Nat) : RV := L[i]?.getD (none, [], 0)
theorem atV_eq {L : List RV} {i : Nat} (h : i < L.length) : atV L i = L[i] := by simp [atV, h]
theorem atV_mem {L : List RV} {i : Nat} (h : i < L.length) : atV L i ∈ L := by rw [atV_eq h]; exact List.getElem_mem h
theorem map_at {L : List RV} {k : Nat} (h : k < L.length) : (L.map encV)[k]? = some (encV (atV L k)) := by
  rw [List.getElem?_map, List.getElem?_eq_getElem h, atV_eq h]; rfl
/-- The slice of rows at address a reads as the list K. -/
def RRow (w : World) (a : Option Addr) (K : List RV) : Prop :=
  (K = [] ∨ ∃ b off, a = some ⟨b, off, none⟩ ∧ b < w.heap.size ∧ ∀ i, i < K.length → w.cell? ⟨b, off + i, none⟩ = some (encV (atV K i))) ∧ ∀ x ∈ K, Row w x.1 x.2.1 ∧ x.2.1.length ≤ x.2.2
theorem RRow.below {w w' : World} {a : Option Addr} {K : List RV} (h : RRow w a K) (hb : Below w.heap.size w w') : RRow w' a K := by
  refine ⟨?_, fun x hx => ⟨(h.2 x hx).1.below hb, (h.2 x hx).2⟩⟩
  rcases h.1 with rfl | ⟨b, off, rfl, hlt, hc⟩
  · exact .inl rfl
  · exact .inr ⟨b, off, rfl, Nat.lt_of_lt_of_le hlt hb.size, fun i hi => (hb.cell (p := ⟨b, off + i, none⟩) hlt).trans (hc i hi)⟩
theorem RRow.belowB {w w' : World} {B : Nat} {a : Option Addr} {K : List RV} (h : RRow w a K) (hB : w.heap.size = B) (hb : Below B w w') : RRow w' a K := by subst hB; exact h.below hb
theorem RRow.at {w : World} {a : Option Addr} {K : List RV} (h : RRow w a K) {k : Nat} (hk : k < K.length) :
    ∃ b off, a = some ⟨b, off, none⟩ ∧ b < w.heap.size ∧ w.cell? ⟨b, off + k, none⟩ = some (.slice (atV K k).1 (atV K k).2.1.length (atV K k).2.2) ∧ Row w (atV K k).1 (atV K k).2.1 ∧ (atV K k).2.1.length ≤ (atV K k).2.2 := by
  rcases h.1 with rfl | ⟨b, off, rfl, hlt, hc⟩
  · simp at hk
  · exact ⟨b, off, rfl, hlt, hc k hk, h.2 _ (atV_mem hk)⟩
theorem rrow_of_owns {w : World} {base n : Nat} {t : TypeId} {v : Value} {K : List RV} (h : w.ownsRow base t 1 v n (K.map encV)) (hr : ∀ x ∈ K, Row w x.1 x.2.1 ∧ x.2.1.length ≤ x.2.2) : ∃ a cap, v = .slice a n cap ∧ RRow w a K := by
  obtain ⟨hl, h | ⟨g, cap, cur, rfl, hb, hh, hn, hm, hcs, ht⟩⟩ := h
  · obtain ⟨rfl, rfl⟩ := h
    obtain rfl : K = [] := by simpa using hl
    exact ⟨none, 0, rfl, .inl rfl, hr⟩
  · refine ⟨_, cap, rfl, .inr ⟨g, 0, rfl, (Array.getElem?_eq_some_iff.1 hh).1, fun i hi => ?_⟩, hr⟩
    have hx : cur[i]? = some (encV (atV K i)) := by
      have e1 : (cur.toList.take (n * 1))[i]? = some (encV (atV K i)) := by rw [ht, map_at hi]
      rw [List.getElem?_take_of_lt (by simp at hl; omega)] at e1
      simpa using e1
    simp [World.cell?, hh, hx]
theorem Row.keeps {N : Nat → Prop} {w w' : World} {a : Option Addr} {zs : List Int} (h : Row w a zs) (hk : Keeps N w w') (hn : ∀ x, a = some x → ¬ N x.block) : Row w' a zs := by
  rcases h with rfl | ⟨b, off, rfl, hlt, hc⟩
  · exact .inl rfl
  · exact .inr ⟨b, off, rfl, Nat.lt_of_lt_of_le hlt hk.size, fun i hi => (World.cell?_of_block (a := ⟨b, off + i, none⟩) (hk.block b hlt (hn _ rfl))).trans (hc i hi)⟩
theorem Row.lt {w : World} {a : Option Addr} {zs : List Int} (h : Row w a zs) (h0 : 0 < zs.length) : ∀ x, a = some x → x.block < w.heap.size := by
  rcases h with rfl | ⟨b, off, rfl, hlt, hc⟩
  · simp at h0
  · intro x hx; cases hx; exact hlt

/-- The elements at position k; all columns. -/
def colOf (rs : List (List Int)) (k : Nat) : List Int := rs.map fun r => r[k]?.getD 0
def colsOf (wd : Nat) (rs : List (List Int)) : List (List Int) := (List.range wd).map (colOf rs)
theorem colsOf_take {wd : Nat} {rs : List (List Int)} {k : Nat} (h : k < wd) : (colsOf wd rs).take (k + 1) = (colsOf wd rs).take k ++ [colOf rs k] := by
  have hl : k < (colsOf wd rs).length := by simp [colsOf]; exact h
  rw [List.take_succ_eq_append_getElem hl]
  simp [colsOf]
theorem colOf_len (rs : List (List Int)) (k : Nat) : (colOf rs k).length = rs.length := by simp [colOf]

theorem made_ints (n : Nat) : (madeCells #[Value.int .i64 0] n).toList = (List.replicate n (0 : Int)).map (Value.int .i64) := (toList_madeCells_one _ n).trans (by simp)
theorem made_rows (n : Nat) : (madeCells #[Value.slice none 0 0] n).toList = List.replicate n (Value.slice none 0 0) := toList_madeCells_one _ n
theorem grown_below {w w1 : World} {B : Nat} (h : w.grownBy w1 none) (hB : B ≤ w.heap.size) : Below B w w1 := (Below.refl _ _).grown h hB (fun k hk => by cases hk)
theorem info22 : (Try.prog.info? 22).map (fun i => (i.zero, i.size, i.bytes)) = some (some (.slice none 0 0), 1, 24) := by kernel_rfl

/-- After i stores of what belongs there. -/
def filled (f : Nat → Int) (n k : Nat) : List Int := (List.range n).map fun i => if i < k then f i else 0
theorem filled_zero (f : Nat → Int) (n : Nat) : filled f n 0 = List.replicate n 0 := by
  unfold filled; apply List.ext_getElem? ; intro i; by_cases h : i < n <;> simp [List.getElem?_replicate, h]
theorem filled_len (f : Nat → Int) (n k : Nat) : (filled f n k).length = n := by simp [filled]
theorem filled_set (f : Nat → Int) (n k : Nat) (h : k < n) : (filled f n k).set k (f k) = filled f n (k + 1) := by
  unfold filled; apply List.ext_getElem?; intro i
  rw [List.getElem?_set]
  by_cases hi : i < n
  · by_cases hk : k = i
    · subst hk; simp [hi]
    · simp only [hk, if_false, List.getElem?_map, List.getElem?_range hi, Option.map_some]
      congr 1
      by_cases h1 : i < k
      · rw [if_pos h1, if_pos (by omega)]
      · rw [if_neg h1, if_neg (by omega)]
  · have e1 : (List.range n)[i]? = none := by simp; omega
    simp [e1]; omega
theorem filled_full (f : Nat → Int) (n : Nat) : filled f n n = (List.range n).map f := by
  unfold filled; apply List.map_congr_left; intro i hi; rw [if_pos (by simpa using hi)]
theorem filled_col (L : List RV) (k : Nat) : filled (fun i => (atV L i).2.1[k]?.getD 0) L.length L.length = colOf (L.map (·.2.1)) k := by
  rw [filled_full]
  apply List.ext_getElem?
  intro i
  by_cases h : i < L.length
  · simp [colOf, h, atV]
  · simp [colOf, h]

/-- The state of the columns made so far. -/
structure ColsMid (B : Nat) (wr : World) (wd k : Nat) (rs : List (List Int)) (K : List RV) : Prop where
  len : K.length = k
  cont : K.map (·.2.1) = (colsOf wd rs).take k
  own : wr.ownsRow B 22 1 (.slice (some ⟨B, 0, none⟩) wd wd) wd (K.map encV ++ List.replicate (wd - k) (.slice none 0 0))
  rows : ∀ x ∈ K, Row wr x.1 x.2.1 ∧ (∀ p, x.1 = some p → B < p.block ∧ p.block < wr.heap.size)
  caps : ∀ x ∈ K, x.2.1.length ≤ x.2.2
/-- A world in which the blocks from L on are as they were. -/
def Later (L : Nat) (w W : World) : Prop := w.heap.size ≤ W.heap.size ∧ ∀ k, L ≤ k → k < w.heap.size → W.heap[k]? = w.heap[k]?
theorem Later.refl (L : Nat) (w : World) : Later L w w := ⟨Nat.le_refl _, fun _ _ _ => rfl⟩
theorem Later.of_below {L : Nat} {w W : World} (h : Below w.heap.size w W) : Later L w W := ⟨h.size, fun k _ hk => h.block k hk⟩
theorem Later.trans {L L' : Nat} {w W V : World} (h : Later L w W) (h' : Later L' W V) (hL : L' ≤ L) : Later L w V := ⟨Nat.le_trans h.1 h'.1, fun k h1 h2 => (h'.2 k (by omega) (Nat.lt_of_lt_of_le h2 h.1)).trans (h.2 k h1 h2)⟩
theorem rrow_later {w W : World} {B n : Nat} {v : Value} {K : List RV} (h : w.ownsRow B 22 1 v n (K.map encV)) (hr : ∀ x ∈ K, (Row w x.1 x.2.1 ∧ x.2.1.length ≤ x.2.2) ∧ ∀ p, x.1 = some p → B ≤ p.block) (hl : Later B w W) : ∃ a cap, v = .slice a n cap ∧ RRow W a K := by
  have h1 : W.ownsRow B 22 1 v n (K.map encV) := by
    refine ⟨h.1, ?_⟩
    rcases h.2 with h0 | ⟨r, cap, cur, rfl, hb, hh, hrest⟩
    · exact .inl h0
    · exact .inr ⟨r, cap, cur, rfl, hb, (hl.2 r hb (Array.getElem?_eq_some_iff.1 hh).1).trans hh, hrest⟩
  refine rrow_of_owns h1 (fun x hx => ⟨?_, (hr x hx).1.2⟩)
  rcases (hr x hx).1.1 with h0 | ⟨b, off, ha, hlt, hc⟩
  · exact .inl h0
  · have hB := (hr x hx).2 _ ha
    exact .inr ⟨b, off, ha, Nat.lt_of_lt_of_le hlt hl.1, fun i hi => (World.cell?_of_block (a := ⟨b, off + i, none⟩) (hl.2 b hB hlt)).trans (hc i hi)⟩
def ColsRet (w : World) (wd : Nat) (rs : List (List Int)) (e : Ending) (w' : World) : Prop :=
  ∃ a c K, e = .returned (.slice a wd c) ∧ K.map (·.2.1) = colsOf wd rs ∧ (∀ W, Later w.heap.size w' W → RRow W a K) ∧ Below w.heap.size w w'
theorem set_at {vs : List Value} {m : Nat} {u z : Value} {k : Nat} (h : vs.length = k) (hm : 0 < m) : (vs ++ List.replicate m z).set k u = (vs ++ [u]) ++ List.replicate (m - 1) z := by
  subst h
  obtain ⟨n, rfl⟩ : ∃ n, m = n + 1 := ⟨m - 1, by omega⟩
  rw [List.set_append_right _ _ (Nat.le_refl _)]
  simp [List.replicate_succ]

end Go.Proofs.Ytfpocoaddmgakaa
