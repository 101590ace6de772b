/- JoinSemis: mathematics and walk. -/
import Derived.Test.YtcecndjkfdaaaaaJn16
namespace Go.Proofs.Ytcecndjkfdaaaaa
open Go.RowKit Go.Shelf
set_option linter.unusedVariables false
set_option linter.unusedSimpArgs false

def withS (acc : List Int) (x : Int) : List Int := if acc.getLast? = some x then acc else acc ++ [x]
def withL (ps : List (Int × Int)) : List Int := ps.foldl (fun acc p => withS acc p.1) []
theorem withL_take {ps : List (Int × Int)} {k : Nat} (h : k < ps.length) : withL (ps.take (k + 1)) = withS (withL (ps.take k)) (atP ps k).1 := by
  unfold withL
  rw [List.take_succ_eq_append_getElem h, List.foldl_append]
  simp [atP, h]
theorem with_rest (acc : List Int) (m : Nat) (js : List Int) : (rowPairs m js).foldl (fun acc p => withS acc p.1) (acc ++ [(m : Int)]) = acc ++ [(m : Int)] := by
  induction js with
  | nil => rfl
  | cons j js ih =>
    have : rowPairs m (j :: js) = ((m : Int), j) :: rowPairs m js := rfl
    rw [this, List.foldl_cons]
    have h2 : withS (acc ++ [(m : Int)]) (m : Int) = acc ++ [(m : Int)] := by simp [withS]
    rw [h2]; exact ih
theorem with_row {acc : List Int} {m : Nat} (h : ∀ z ∈ acc, z < (m : Int)) (js : List Int) : (rowPairs m js).foldl (fun acc p => withS acc p.1) acc = if js = [] then acc else acc ++ [(m : Int)] := by
  cases js with
  | nil => rfl
  | cons j js =>
    have e : rowPairs m (j :: js) = ((m : Int), j) :: rowPairs m js := rfl
    rw [e, List.foldl_cons, if_neg (by simp)]
    have h2 : withS acc (m : Int) = acc ++ [(m : Int)] := by
      unfold withS
      rw [if_neg]
      intro hl
      have := h _ (List.mem_of_getLast? hl)
      omega
    rw [h2]; exact with_rest acc m js
theorem semiTo_mem {kas kbs : List (List Int)} {has : Bool} {m : Nat} {z : Int} (h : z ∈ semiTo kas kbs has m) : z < (m : Int) := by
  simp only [semiTo, ints, List.mem_map, List.mem_filter, List.mem_range] at h
  obtain ⟨i, ⟨hi, _⟩, rfl⟩ := h
  exact Int.ofNat_lt.2 hi
theorem withL_pairs (kas kbs : List (List Int)) (m : Nat) : withL (pairsTo kas kbs m) = semiTo kas kbs true m := by
  induction m with
  | zero => rfl
  | succ m ih =>
    unfold withL at ih ⊢
    rw [pairsTo_succ, List.foldl_append, ih, with_row (fun z hz => semiTo_mem hz)]
    by_cases h : 0 < (rowsOf kbs (kyAt kas m)).length
    · rw [if_neg (by intro e; have := congrArg List.length e; rw [ints_len] at this; simp at this; rw [this] at h; simp at h), semiTo_yes (decide_eq_true h)]
    · rw [if_pos (by apply List.eq_nil_of_length_eq_zero; rw [ints_len]; omega), semiTo_no (decide_eq_false h)]
theorem semiTo_more (kas kbs : List (List Int)) (has : Bool) {m : Nat} : ∀ n, m ≤ n → ∃ t, semiTo kas kbs has n = semiTo kas kbs has m ++ t ∧ ∀ z ∈ t, (m : Int) ≤ z := by
  intro n hn
  induction n with
  | zero => exact ⟨[], by rw [show m = 0 by omega]; simp, fun z hz => by cases hz⟩
  | succ n ih =>
    by_cases e : m = n + 1
    · exact ⟨[], by rw [e]; simp, fun z hz => by cases hz⟩
    · obtain ⟨t, h1, h2⟩ := ih (by omega)
      cases hb : decide (0 < (rowsOf kbs (kyAt kas n)).length) == has
      · refine ⟨t, ?_, h2⟩
        rw [semiTo_no (by cases h3 : decide (0 < (rowsOf kbs (kyAt kas n)).length) <;> cases has <;> simp_all), h1]
      · refine ⟨t ++ [(n : Int)], ?_, fun z hz => ?_⟩
        · rw [semiTo_yes (by simpa using hb), h1, List.append_assoc]
        · rcases List.mem_append.1 hz with h | h
          · exact h2 z h
          · simp at h; omega
theorem semi_sum (kas kbs : List (List Int)) (m : Nat) : (semiTo kas kbs true m).length + (semiTo kas kbs false m).length = m := by
  induction m with
  | zero => rfl
  | succ m ih =>
    cases h : decide (0 < (rowsOf kbs (kyAt kas m)).length)
    · rw [semiTo_no (has := true) (by simpa using h), semiTo_yes (has := false) h]; simp; omega
    · rw [semiTo_yes (has := true) h, semiTo_no (has := false) (by simpa using h)]; simp; omega
/-- At a row that counts: its number stands behind those before it. -/
theorem semi_at {kas kbs : List (List Int)} {has : Bool} {k : Nat} (hk : k < kas.length) (h : decide (0 < (rowsOf kbs (kyAt kas k)).length) = has) : (semiTo kas kbs has k).length < (semiOf kas kbs has).length ∧ (semiOf kas kbs has)[(semiTo kas kbs has k).length]?.getD 0 = (k : Int) ∧ (semiTo kas kbs has (k + 1)).length = (semiTo kas kbs has k).length + 1 := by
  obtain ⟨t, h1, _⟩ := semiTo_more kas kbs has (m := k + 1) kas.length (by omega)
  have h2 := semiTo_yes (kas := kas) (kbs := kbs) (m := k) h
  unfold semiOf
  rw [h1, h2]
  simp
/-- At one that does not: another number stands there, if any. -/
theorem semi_not {kas kbs : List (List Int)} {has : Bool} {k : Nat} (hk : k < kas.length) (h : decide (0 < (rowsOf kbs (kyAt kas k)).length) = !has) : (semiTo kas kbs has k).length ≤ (semiOf kas kbs has).length ∧ ((semiTo kas kbs has k).length < (semiOf kas kbs has).length → (semiOf kas kbs has)[(semiTo kas kbs has k).length]?.getD 0 ≠ (k : Int)) ∧ semiTo kas kbs has (k + 1) = semiTo kas kbs has k := by
  obtain ⟨t, h1, h3⟩ := semiTo_more kas kbs has (m := k + 1) kas.length (by omega)
  have h2 := semiTo_no (kas := kas) (kbs := kbs) (m := k) h
  unfold semiOf
  rw [h1, h2]
  refine ⟨by simp, fun hl => ?_, rfl⟩
  cases t with
  | nil => simp at hl
  | cons x t =>
    have := h3 x (List.mem_cons_self ..)
    simp
    omega
end Go.Proofs.Ytcecndjkfdaaaaa
