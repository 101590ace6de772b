/- Mathematics of StoreActs: a store's runs beside plain sets. -/
import Derived.Test.YtepkmhcchmladaaSt14
import Derived.Test.YtepkmhcchmladaaSt15
namespace Go.Proofs.Ytepkmhcchmladaa
open Go.RowKit Go.Shelf Go.Maps
set_option linter.unusedVariables false
set_option linter.unusedSimpArgs false

/-- Runs R, the rows fl of the plain set, how many runs there are to be. -/
structure PI2 (wd : Nat) (most : Int) (R : List (List (List Int))) (fl : List (List Int)) : Prop where
  asc : SortedR fl
  perm : fl.Perm R.flatten
  wide : ∀ r ∈ R.flatten, r.length = wd
  most : 0 < most → (R.length : Int) ≤ most
theorem PI2.nodup {wd : Nat} {most : Int} {R : List (List (List Int))} {fl : List (List Int)} (h : PI2 wd most R fl) : R.flatten.Nodup := h.perm.nodup_iff.1 (sorted_nodup h.asc)
theorem PI2.full {wd : Nat} {most : Int} {R : List (List (List Int))} {fl : List (List Int)} (h : PI2 wd most R fl) : relOf (wd : Int) R.flatten = fl := rel_of_perm h.asc h.perm h.wide
theorem pi2_nil (wd : Nat) (most : Int) : PI2 wd most [] [] := ⟨List.Pairwise.nil, List.Perm.refl _, fun r hr => (by cases hr), fun h => by simp; omega⟩
theorem compact_len (wd : Nat) (R : List (List (List Int))) : (compactR wd R).length = min R.length 1 := by
  unfold compactR
  split
  · simp; omega
  · omega
theorem PI2.compact {wd : Nat} {most : Int} {R : List (List (List Int))} {fl : List (List Int)} (h : PI2 wd most R fl) : PI2 wd most (compactR wd R) fl := by
  obtain ⟨h1, _⟩ := compact_perm h.wide h.nodup
  refine ⟨h.asc, h.perm.trans h1.symm, fun r hr => h.wide r (h1.mem_iff.1 hr), fun hm => ?_⟩
  have := h.most hm
  rw [compact_len]
  omega
theorem set_flat (x : List (List Int)) : (setRuns x).flatten = x ∧ (setRuns x).length = min x.length 1 := by
  unfold setRuns
  by_cases h : x = []
  · rw [if_pos h, h]; exact ⟨rfl, rfl⟩
  · rw [if_neg h]
    have := List.length_pos_iff.2 h
    exact ⟨by simp, by simp; omega⟩
theorem pi2_set {wd : Nat} {most : Int} {x : List (List Int)} (hx : SortedR x) (hw : ∀ r ∈ x, r.length = wd) : PI2 wd most (setRuns x) x := by
  obtain ⟨h1, h2⟩ := set_flat x
  exact ⟨hx, by rw [h1], by rw [h1]; exact hw, fun hm => by rw [h2]; omega⟩
theorem or_minus_perm {fl x : List (List Int)} (hf : SortedR fl) (hx : SortedR x) : (orR fl x).Perm (fl ++ minusR x fl) := by
  refine (List.perm_ext_iff_of_nodup (sorted_nodup (or_sorted hf x)) (List.nodup_append.2 ⟨sorted_nodup hf, (sorted_nodup hx).sublist List.filter_sublist, fun a ha b hb e => ((mem_minus _ _ _).1 hb).2 (e ▸ ha)⟩)).2 (fun r => ?_)
  rw [mem_or hf, List.mem_append]
  show r ∈ fl ∨ r ∈ x ↔ r ∈ fl ∨ r ∈ minusR x fl
  rw [mem_minus]
  by_cases h : r ∈ fl
  · simp [h]
  · simp [h]
/-- The number of runs behind a step, as the plain sets tell it. -/
def runsTo (most : Int) (c : Nat) (new : List (List Int)) : Nat := if 0 < most ∧ most < ((if new = [] then c else c + 1 : Nat) : Int) then 1 else if new = [] then c else c + 1
theorem PI2.step {wd : Nat} {most : Int} {R : List (List (List Int))} {fl x : List (List Int)} (h : PI2 wd most R fl) (hx : SortedR x) (hw : ∀ r ∈ x, r.length = wd) :
    newR wd R wd x = minusR x fl ∧ PI2 wd most (stepRuns wd most R (minusR x fl)) (orR fl x) ∧ (stepRuns wd most R (minusR x fl)).length = runsTo most R.length (minusR x fl) := by
  have e : minusR x R.flatten = minusR x fl := minus_congr h.perm
  have hs := step_perm (wd := wd) (most := most) h.nodup (sorted_nodup hx) h.wide hw
  rw [e] at hs
  have hp : (orR fl x).Perm (stepRuns wd most R (minusR x fl)).flatten := (or_minus_perm h.asc hx).trans ((h.perm.append_right _).trans hs.1.symm)
  have hl : (stepRuns wd most R (minusR x fl)).length = runsTo most R.length (minusR x fl) := by
    unfold stepRuns runsTo
    by_cases h0 : minusR x fl = []
    · rw [if_pos h0, if_pos h0, if_neg (fun hc => by have := h.most hc.1; omega)]
    · rw [if_neg h0, if_neg h0]
      by_cases hc : 0 < most ∧ most < (R.length : Int) + 1
      · rw [if_pos hc, if_pos (by push_cast; exact hc), compact_len]
        simp
      · rw [if_neg hc, if_neg (by push_cast; exact hc)]
        simp
  refine ⟨by unfold newR; rw [if_pos rfl]; exact e, ⟨or_sorted h.asc x, hp, fun r hr => ?_, fun hm => ?_⟩, hl⟩
  · rcases (mem_or h.asc x r).1 (hp.mem_iff.2 hr) with h1 | h1
    · exact h.wide r (h.perm.mem_iff.1 h1)
    · exact hw r h1
  · rw [hl]
    unfold runsTo
    by_cases hc : 0 < most ∧ most < ((if minusR x fl = [] then R.length else R.length + 1 : Nat) : Int)
    · rw [if_pos hc]; omega
    · have h9 : ¬ most < ((if minusR x fl = [] then R.length else R.length + 1 : Nat) : Int) := fun h => hc ⟨hm, h⟩
      rw [if_neg hc]; omega
end Go.Proofs.Ytepkmhcchmladaa
