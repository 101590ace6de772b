/- The mathematics of JoinParts. -/
import Derived.Test.YtcecndjkfdaaaaaJn20
namespace Go.Proofs.Ytcecndjkfdaaaaa
open Go.RowKit Go.Shelf
set_option linter.unusedVariables false
set_option linter.unusedSimpArgs false

theorem rowsTo_take {kbs : List (List Int)} (κ : List Int) {c m : Nat} (h : m ≤ c) : rowsTo (kbs.take c) κ m = rowsTo kbs κ m := by
  unfold rowsTo
  apply List.filter_congr
  intro i hi
  have : i < c := by have := List.mem_range.1 hi; omega
  have e : kyAt (kbs.take c) i = kyAt kbs i := by unfold kyAt; rw [List.getElem?_take_of_lt this]
  rw [e]
theorem rowsTo_drop (kbs : List (List Int)) (κ : List Int) (c : Nat) : ∀ d, rowsTo kbs κ (c + d) = rowsTo kbs κ c ++ (rowsTo (kbs.drop c) κ d).map (fun j => c + j)
  | 0 => by simp [rowsTo]
  | d + 1 => by
    have ih := rowsTo_drop kbs κ c d
    have e : kyAt (kbs.drop c) d = kyAt kbs (c + d) := by simp [kyAt, List.getElem?_drop]
    by_cases h : kyAt kbs (c + d) = κ
    · rw [show c + (d + 1) = (c + d) + 1 from rfl, rowsTo_hit h, ih, rowsTo_hit (by rw [e]; exact h)]; simp
    · rw [show c + (d + 1) = (c + d) + 1 from rfl, rowsTo_step_no h, ih, rowsTo_step_no (by rw [e]; exact h)]
theorem rowsOf_cut (kbs : List (List Int)) (κ : List Int) {c : Nat} (h : c ≤ kbs.length) : rowsOf kbs κ = rowsOf (kbs.take c) κ ++ (rowsOf (kbs.drop c) κ).map (fun j => c + j) := by
  have e := rowsTo_drop kbs κ c (kbs.length - c)
  rw [show c + (kbs.length - c) = kbs.length by omega] at e
  unfold rowsOf
  rw [List.length_take, Nat.min_eq_left h, rowsTo_take κ (Nat.le_refl _), List.length_drop]
  exact e
def fstB (c : Nat) (p : Int × Int) : Bool := decide (p.2 < (c : Int))
def sndB (c : Nat) (p : Int × Int) : Bool := !decide (p.2 < (c : Int))
def shiftP (c : Nat) (p : Int × Int) : Int × Int := (p.1, p.2 + c)
theorem rowsOf_lt {kys : List (List Int)} {κ : List Int} {j : Nat} (h : j ∈ rowsOf kys κ) : j < kys.length := by
  simp [rowsOf, rowsTo] at h; exact h.1
theorem filter_all {α : Type} {l : List α} {f : α → Bool} (h : ∀ x ∈ l, f x = true) : l.filter f = l := List.filter_eq_self.2 h
theorem filter_none {α : Type} {l : List α} {f : α → Bool} (h : ∀ x ∈ l, f x = false) : l.filter f = [] := List.filter_eq_nil_iff.2 (fun x hx => by rw [h x hx]; simp)
theorem rowPairs_fst (i c : Nat) {js : List Nat} (h : ∀ j ∈ js, j < c) : (rowPairs i (ints js)).filter (fstB c) = rowPairs i (ints js) ∧ (rowPairs i (ints js)).filter (sndB c) = [] := by
  have k : ∀ x ∈ rowPairs i (ints js), fstB c x = true := by
    intro x hx
    simp only [rowPairs, ints, List.mem_map] at hx
    obtain ⟨y, ⟨j, hj, rfl⟩, rfl⟩ := hx
    have := h j hj
    simp [fstB]; omega
  refine ⟨filter_all k, filter_none (fun x hx => ?_)⟩
  have := k x hx
  unfold fstB at this; unfold sndB; rw [this]; rfl
theorem rowPairs_snd (i c : Nat) (js : List Nat) : (rowPairs i (ints (js.map fun j => c + j))).filter (fstB c) = [] ∧ (rowPairs i (ints (js.map fun j => c + j))).filter (sndB c) = (rowPairs i (ints js)).map (shiftP c) := by
  have k : ∀ x ∈ rowPairs i (ints (js.map fun j => c + j)), sndB c x = true := by
    intro x hx
    simp only [rowPairs, ints, List.mem_map] at hx
    obtain ⟨y, ⟨j, ⟨m, hm, rfl⟩, rfl⟩, rfl⟩ := hx
    simp [sndB]; omega
  refine ⟨filter_none (fun x hx => ?_), ?_⟩
  · have := k x hx
    unfold sndB at this; unfold fstB; simpa using this
  · rw [filter_all k]
    simp only [rowPairs, ints, List.map_map]
    apply List.map_congr_left
    intro j hj
    simp [shiftP]; omega
theorem rowPairs_app (i : Nat) (a b : List Int) : rowPairs i (a ++ b) = rowPairs i a ++ rowPairs i b := by simp [rowPairs]
theorem pairs_first (kas kbs : List (List Int)) {c : Nat} (h : c ≤ kbs.length) (m : Nat) : (pairsTo kas kbs m).filter (fstB c) = pairsTo kas (kbs.take c) m ∧ (pairsTo kas kbs m).filter (sndB c) = (pairsTo kas (kbs.drop c) m).map (shiftP c) := by
  induction m with
  | zero => exact ⟨rfl, rfl⟩
  | succ m ih =>
    have h1 := rowPairs_fst m c (js := rowsOf (kbs.take c) (kyAt kas m)) (fun j hj => by have := rowsOf_lt hj; simp at this; omega)
    have h2 := rowPairs_snd m c (rowsOf (kbs.drop c) (kyAt kas m))
    refine ⟨?_, ?_⟩
    · rw [pairsTo_succ, pairsTo_succ, List.filter_append, ih.1, rowsOf_cut kbs _ h, ints_append, rowPairs_app, List.filter_append, h1.1, h2.1, List.append_nil]
    · rw [pairsTo_succ, pairsTo_succ, List.filter_append, ih.2, rowsOf_cut kbs _ h, ints_append, rowPairs_app, List.filter_append, h1.2, h2.2, List.nil_append, List.map_append]
/-- How many of the first k fulfil f. -/
def cntP (f : Int × Int → Bool) (ps : List (Int × Int)) (k : Nat) : Nat := ((ps.take k).filter f).length
theorem cntP_zero (f : Int × Int → Bool) (ps : List (Int × Int)) : cntP f ps 0 = 0 := rfl
theorem cntP_yes {f : Int × Int → Bool} {ps : List (Int × Int)} {k : Nat} (hk : k < ps.length) (hf : f (atP ps k) = true) : cntP f ps (k + 1) = cntP f ps k + 1 ∧ cntP f ps k < (ps.filter f).length ∧ atP (ps.filter f) (cntP f ps k) = atP ps k := by
  have e : atP ps k = ps[k] := by simp [atP, hk]
  rw [e] at hf ⊢
  have s : ps = ps.take k ++ ps[k] :: ps.drop (k + 1) := by rw [List.getElem_cons_drop, List.take_append_drop]
  have q : ps.filter f = (ps.take k).filter f ++ ps[k] :: (ps.drop (k + 1)).filter f := by
    conv => lhs; rw [s]
    rw [List.filter_append, List.filter_cons_of_pos hf]
  refine ⟨?_, ?_, ?_⟩
  · unfold cntP; rw [List.take_succ_eq_append_getElem hk, List.filter_append]; simp [hf]
  · rw [q]; unfold cntP; simp
  · unfold atP cntP; rw [q]; simp
theorem cntP_no {f : Int × Int → Bool} {ps : List (Int × Int)} {k : Nat} (hk : k < ps.length) (hf : f (atP ps k) = false) : cntP f ps (k + 1) = cntP f ps k := by
  have e : atP ps k = ps[k] := by simp [atP, hk]
  rw [e] at hf
  unfold cntP; rw [List.take_succ_eq_append_getElem hk, List.filter_append]; simp [hf]
theorem cntP_all (f : Int × Int → Bool) (ps : List (Int × Int)) : cntP f ps ps.length = (ps.filter f).length := by simp [cntP]
theorem cntP_le (f : Int × Int → Bool) (ps : List (Int × Int)) (k : Nat) : cntP f ps k ≤ ps.length := by
  unfold cntP
  have := List.length_filter_le f (ps.take k)
  rw [List.length_take] at this; omega
theorem rel_self {rs : List (List Int)} {n : Nat} (h : SortedR rs) (hl : ∀ r ∈ rs, r.length = n) : relOf (n : Int) rs = rs :=
  (rel_unique h (fun x => ⟨fun hx => ⟨hx, by rw [hl x hx]⟩, fun hx => hx.1⟩)).symm
theorem sorted_take {rs : List (List Int)} (h : SortedR rs) (k : Nat) : SortedR (rs.take k) := List.Pairwise.sublist (List.take_sublist _ _) h
theorem sorted_drop {rs : List (List Int)} (h : SortedR rs) (k : Nat) : SortedR (rs.drop k) := List.Pairwise.sublist (List.drop_sublist _ _) h
/-- What the two parts of the pairs are. -/
theorem parts_are (kas kbs : List (List Int)) {c : Nat} (h : c ≤ kbs.length) : pairsOf kas (kbs.take c) = (pairsOf kas kbs).filter (fstB c) ∧ (pairsOf kas (kbs.drop c)).map (shiftP c) = (pairsOf kas kbs).filter (sndB c) := by
  have := pairs_first kas kbs h kas.length
  exact ⟨this.1.symm, this.2.symm⟩
theorem atP_map (c : Nat) {ps : List (Int × Int)} {k : Nat} (h : k < ps.length) : atP (ps.map (shiftP c)) k = ((atP ps k).1, (atP ps k).2 + c) := by simp [atP, h, shiftP]
end Go.Proofs.Ytcecndjkfdaaaaa
