import Derived.Test.YtepkmhcchmladaaSg1
import Derived.Test.YtepkmhcchmladaaRv
import Derived.Test.YtepkmhcchmladaaShelf
import Derived.Sort.OwnSorted
/- Lists of rows in memory, and slices.SortFunc over them. -/
namespace Go.Proofs.Ytepkmhcchmladaa
open Go.RowKit Go.Sort
set_option linter.unusedVariables false
set_option linter.unusedSimpArgs false

section
variable {α : Type} [Inhabited α] {enc : α → Value}
theorem heap_sortedG {w : World} {g n : Nat} {os : Array Obj} {cur : Array Value} {e : TypeId} {fr : Nat × Nat} (d : Array α) (hb : w.heap[g]? = some (.cells cur e fr)) :
    (grow (putRow enc (Sort.ahead w n) g 0 d) os).heap[g]? = some (.cells (putCells enc 0 d cur) e fr) := by
  have hg : g < w.heap.size := (Array.getElem?_eq_some_iff.1 hb).1
  rw [heap_grow_old _ _ (by simpa using hg)]
  simp [putRow, mapBlock, Sort.ahead, Array.getElem?_modify, hb, onCells]
theorem grownBy_sortedG {w : World} {g n : Nat} {os : Array Obj} (d : Array α) : w.grownBy (grow (putRow enc (Sort.ahead w n) g 0 d) os) (some g) := by
  refine ⟨rfl, rfl, rfl, by simp, fun k hk hne => ?_⟩
  rw [heap_grow_old _ _ (by simpa using hk)]
  have : g ≠ k := fun e => hne (by rw [e])
  simp [putRow, mapBlock, Sort.ahead, Array.getElem?_modify, this]
theorem take_putCellsG (cur : Array Value) (ts : Array α) (h : ts.size ≤ cur.size) : (putCells enc 0 ts cur).toList.take ts.size = ts.toList.map enc := by
  apply List.ext_getElem?
  intro j
  by_cases hj : j < ts.size
  · rw [List.getElem?_take_of_lt hj, Array.getElem?_toList]
    simp [putCells, hj, show j < cur.size by omega]
  · rw [List.getElem?_take_eq_none (by omega), List.getElem?_eq_none (by simp; omega)]
end

theorem below_sort {B : Nat} {α : Type} [Inhabited α] {enc : α → Value} {w0 w : World} {blk m : Nat} {d : Array α} {os : Array Obj} (h : Below B w0 w) (hB : B ≤ blk) (hBw : B ≤ w.heap.size) : Below B w0 (sortWorld enc w blk 0 m d os) :=
  h.grown (grownBy_sortedG (enc := enc) (n := m) (os := os) d) hBw (fun k hk => by cases hk; exact hB)

def cfV (w0 : World) (x y : {x : RV // RVok w0 x}) : Int := cmpS x.1.2.1 y.1.2.1
instance instRV (w0 : World) : Inhabited {x : RV // RVok w0 x} := ⟨⟨(none, [], 0), .inl rfl, Nat.zero_le _⟩⟩
theorem cfV_lt (w0 : World) (x y : {x : RV // RVok w0 x}) : ltOf (cfV w0) x y = decide (cmpR x.1.2.1 y.1.2.1 < 0) := by
  unfold ltOf cfV cmpS
  by_cases h : cmpR x.1.2.1 y.1.2.1 < 0
  · simp [h]
  · by_cases h' : 0 < cmpR x.1.2.1 y.1.2.1 <;> simp [h, h']
theorem cmpR_ntrans {a b c : List Int} (h : ¬ cmpR a b < 0) (h' : ¬ cmpR b c < 0) : ¬ cmpR a c < 0 := by
  intro hc
  rcases cmpR_tri a b with h1 | h1 | h1
  · exact h h1
  · subst h1; exact h' hc
  · have h2 := (cmpR_neg b a).2 h1
    exact h' (cmpR_trans h2 hc)
theorem cfV_swo (w0 : World) : SWO (ltOf (cfV w0)) where
  irrefl x := by rw [cfV_lt, cmpR_self]; rfl
  trans x y z h1 h2 := by rw [cfV_lt] at *; simp only [decide_eq_true_eq] at *; exact cmpR_trans h1 h2
  ntrans x y z h1 h2 := by rw [cfV_lt] at *; simp only [decide_eq_false_iff_not] at *; exact cmpR_ntrans h1 h2

/-- Not descending. -/
def AscV (L : List RV) : Prop := L.Pairwise fun x y => ¬ cmpR y.2.1 x.2.1 < 0
def SortedRet (B : Nat) (w : World) (v : Value) (L : List RV) (e : Ending) (w' : World) : Prop :=
  e = .returned (.tuple #[]) ∧ ∃ L', L'.Perm L ∧ AscV L' ∧ w'.ownsRow B 33 1 v L.length (L'.map encV) ∧ Below B w w'

theorem sort_calls {B : Nat} {w0 w : World} (hB : w0.heap.size = B) (hbel : Below B w0 w) {v : Value} {L : List RV} (hown : w.ownsRow B 33 1 v L.length (L.map encV)) (hok : ∀ x ∈ L, RVok w0 x) (hL : L.length ≤ 1000000) :
    Calls Try.prog 42 #[v, .func (.func 43) #[] #[]] w (SortedRet B w v L) := by
  have hBw : B ≤ w.heap.size := by have := hbel.size; omega
  rcases hown.2 with ⟨rfl, h0⟩ | ⟨g, cap, cur, rfl, hb, hh, hn, hm, hcs, ht⟩
  · have hLn : L = [] := List.eq_nil_of_length_eq_zero h0
    subst hLn
    exact (Try.slices_SortFunc_none (α := Nat) none 0 _ w).mono fun e w' ⟨he, hw⟩ => ⟨he, [], List.Perm.refl _, List.Pairwise.nil, by rw [hw]; exact hown, by rw [hw]; exact Below.refl _ _⟩
  · obtain ⟨d, hd⟩ : ∃ d : Array {x : RV // RVok w0 x}, d = (L.attach.map fun x => (⟨x.1, hok x.1 x.2⟩ : {x : RV // RVok w0 x})).toArray := ⟨_, rfl⟩
    have hdm : d.toList.map (fun x => x.1) = L := by rw [hd]; simp only [List.map_map]; exact List.attach_map_subtype_val L
    have hds : d.size = L.length := by rw [hd]; simp
    have hde : d.toList.map (fun x => encV x.1) = L.map encV := by rw [← hdm]; simp
    have hH : Holds (fun x : {x : RV // RVok w0 x} => encV x.1) w g 0 d := by
      intro j hj
      refine ⟨?_, by rw [Nat.zero_add]; exact hown.frozenAt j⟩
      rw [Nat.zero_add, hown.cellAt j (by omega), ← hde]
      simp [hj]
    have hcmp : CmpLays1 Try.prog 43 #[] (fun x : {x : RV // RVok w0 x} => encV x.1) (cfV w0) g 0 d.size w := by
      intro m os dk hdk x y
      have hb2 : Below B w0 (sortWorld (fun x : {x : RV // RVok w0 x} => encV x.1) w g 0 m dk os) := below_sort hbel hb hBw
      subst hB
      refine (make1_calls x.1.1 y.1.1 x.1.2.2 y.1.2.2 x.1.2.1 y.1.2.1 _ (x.2.1.below hb2) (y.2.1.below hb2) x.2.2 y.2.2).mono fun e w' ⟨he, hw⟩ => ⟨he, 0, #[], ?_⟩
      rw [← hw, grow_empty]; rfl
    have eg : ∀ args w, (callFunc 43 args).run Try.prog w = .ok (.enter 43 args) w := enters_of Try.func43 (by kernel_rfl) rfl
    have C := Try.slices_SortFunc (fun x : {x : RV // RVok w0 x} => encV x.1) (fun _ => rfl) (cfV w0) (cfV_swo w0) 43 #[] g 0 cap d w eg hcmp hH (Array.getElem?_eq_some_iff.1 hh).1 (by omega)
    rw [hds] at C
    refine C.mono fun e w' ⟨he, d', n, os, hp, hs, hw⟩ => ?_
    have hd's : d'.size = L.length := by rw [hp.1, hds]
    have hpp : d'.toList.Perm d.toList := by
      have h1 := hp.2.2
      have e1 : d'.extract 0 L.length = d' := by rw [← hd's]; exact Array.extract_size
      have e2 : d.extract 0 L.length = d := by rw [← hds]; exact Array.extract_size
      rw [e1, e2] at h1; exact h1
    refine ⟨he, d'.toList.map (fun x => x.1), by rw [← hdm]; exact hpp.map _, ?_, ?_, ?_⟩
    · unfold AscV
      rw [List.pairwise_map, List.pairwise_iff_getElem]
      intro i j hi hj hij
      have h1 := hs i j (Nat.zero_le _) hij (by simp at hj; omega)
      rw [cfV_lt] at h1
      simp only [decide_eq_false_iff_not] at h1
      simp at hi hj
      rw [getElem!_pos d' i hi, getElem!_pos d' j hj] at h1
      simpa using h1
    · rw [hw]
      refine ⟨by simp [hd's], .inr ⟨g, cap, _, rfl, hb, heap_sortedG _ hh, hn, hm, by simp [putCells, hcs], ?_⟩⟩
      rw [Nat.mul_one, ← hd's]
      have := take_putCellsG (enc := fun x : {x : RV // RVok w0 x} => encV x.1) cur d' (by omega)
      rw [this]; simp
    · rw [hw]; exact below_sort (Below.refl _ _) hb hBw
end Go.Proofs.Ytepkmhcchmladaa
