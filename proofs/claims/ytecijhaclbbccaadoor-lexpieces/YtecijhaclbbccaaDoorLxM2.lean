/- What a token, and all tokens, of a text are like: places, kinds, faults. -/
import Derived.Test.YtecijhaclbbccaaDoorLxE
namespace Go.Proofs.YtecijhaclbbccaaDoor
set_option linter.unusedVariables false
set_option linter.unusedSimpArgs false

theorem skip_le : ∀ (b : Bool) (r : Bytes), skipM b r ≤ r.length
  | b, [] => by cases b <;> simp [skipM]
  | false, x :: r => by
    have h1 := skip_le true r
    have h2 := skip_le false r
    unfold skipM
    rw [List.length_cons]
    split
    · omega
    · split <;> omega
  | true, x :: r => by
    have h1 := skip_le true r
    have h2 := skip_le false r
    unfold skipM
    rw [List.length_cons]
    split <;> omega
/-- What one token, or its fault, is like. -/
def NxOK (n p : Nat) : Nx → Prop
  | .ok t e => p < e ∧ e ≤ n ∧ t.at' = p ∧ 1 ≤ t.kind ∧ t.kind ≤ 5
  | .no tag q => (tag = 1 ∨ tag = 3) ∧ p ≤ q ∧ q ≤ n
theorem wordM_le (r : Bytes) : wordM r ≤ r.length := by unfold wordM; exact (List.takeWhile_sublist _).length_le
theorem word_ok {kind : Int} {b : UInt8} {r : Bytes} {n p : Nat} (hk : kind = 1 ∨ kind = 2) (hw : wordB b.toNat = true) (hn : p + (b :: r).length = n) : NxOK n p (wordN kind (b :: r) p) := by
  have h1 : 1 ≤ wordM (b :: r) := by rw [wordM_cons, if_pos hw]; omega
  have h2 := wordM_le (b :: r)
  unfold wordN
  split
  · exact ⟨.inr rfl, Nat.le_refl _, by omega⟩
  · exact ⟨by omega, by omega, rfl, by show 1 ≤ kind; omega, by show kind ≤ 5; omega⟩
theorem num_le : ∀ (r : Bytes) (num k n e : Nat), numGo r num k = some (n, e) → k ≤ e ∧ e ≤ k + r.length
  | [], num, k, n, e, h => by rw [numGo] at h; cases h; simp
  | b :: r, num, k, n, e, h => by
    rw [numGo] at h
    by_cases hd : digB b.toNat = true
    · rw [if_pos hd] at h
      by_cases ht : (9223372036854775808 - (b.toNat - 48)) / 10 < num
      · rw [if_pos ht] at h; cases h
      · rw [if_neg ht] at h
        have := num_le r _ _ _ _ h
        rw [List.length_cons]; omega
    · rw [if_neg hd] at h; cases h; rw [List.length_cons]; omega
theorem num_ok {b : UInt8} {r : Bytes} {n p : Nat} (hd : digB b.toNat = true) (hn : p + (b :: r).length = n) : NxOK n p (numN (b :: r) p) := by
  unfold numN
  rw [numGo, if_pos hd]
  rw [List.length_cons] at hn
  by_cases ht : (9223372036854775808 - (b.toNat - 48)) / 10 < 0
  · omega
  · rw [if_neg ht]
    cases h : numGo r (0 * 10 + (b.toNat - 48)) (0 + 1) with
    | none => exact ⟨.inl rfl, Nat.le_refl _, by omega⟩
    | some x =>
      obtain ⟨m, e⟩ := x
      have := num_le _ _ _ _ _ h
      exact ⟨by show p < p + e; omega, by show p + e ≤ n; omega, rfl, by show (1 : Int) ≤ 3; omega, by show (3 : Int) ≤ 5; omega⟩
theorem str_ok (n p : Nat) : ∀ (f : Nat) (r : Bytes) (i : Nat) (acc : Bytes), r.length ≤ f → i + r.length = n → p < i → NxOK n p (strGo p r i acc)
  | 0, r, i, acc, hf, hn, hi => by
    obtain rfl : r = [] := List.eq_nil_of_length_eq_zero (by omega)
    rw [strGo.eq_def]
    exact ⟨.inl rfl, by omega, by simp at hn; omega⟩
  | f + 1, [], i, acc, hf, hn, hi => by
    rw [strGo.eq_def]
    exact ⟨.inl rfl, by omega, by simp at hn; omega⟩
  | f + 1, b :: r, i, acc, hf, hn, hi => by
    rw [List.length_cons] at hf hn
    rw [strGo.eq_def]
    simp only
    split
    · split
      · exact ⟨.inr rfl, Nat.le_refl _, by omega⟩
      · exact ⟨by show p < i + 1; omega, by show i + 1 ≤ n; omega, rfl, by show (1 : Int) ≤ 4; omega, by show (4 : Int) ≤ 5; omega⟩
    · split
      · exact ⟨.inl rfl, by omega, by omega⟩
      · split
        · cases r with
          | nil => exact ⟨.inl rfl, by omega, by omega⟩
          | cons c r' =>
            rw [List.length_cons] at hf hn
            simp only
            split
            · exact str_ok n p f r' (i + 2) _ (by omega) (by omega) (by omega)
            · split
              · exact str_ok n p f r' (i + 2) _ (by omega) (by omega) (by omega)
              · exact ⟨.inl rfl, by omega, by omega⟩
        · exact str_ok n p f r (i + 1) _ (by omega) (by omega) (by omega)
theorem sign_ok {n p : Nat} {r : Bytes} (hn : p + r.length = n) : ∀ l : List Bytes, (∀ x ∈ l, 1 ≤ x.length) → NxOK n p (signGo r p l)
  | [], _ => ⟨.inl rfl, Nat.le_refl _, by omega⟩
  | x :: l, hl => by
    rw [signGo]
    by_cases h : x.isPrefixOf r = true
    · rw [if_pos h]
      have h1 := hl x (List.mem_cons_self ..)
      have h2 := (List.isPrefixOf_iff_prefix.1 h).length_le
      exact ⟨by omega, by omega, rfl, by show (1 : Int) ≤ 5; omega, by show (5 : Int) ≤ 5; omega⟩
    · rw [if_neg h]
      exact sign_ok hn l (fun y hy => hl y (List.mem_cons_of_mem _ hy))
theorem next_ok {l : Bytes} {p : Nat} (hp : p < l.length) : NxOK l.length p (nextM (l.drop p) p) := by
  cases h : l.drop p with
  | nil => have := congrArg List.length h; simp at this; omega
  | cons b r =>
    have hl : p + (b :: r).length = l.length := by rw [← h, List.length_drop]; omega
    unfold nextM
    simp only
    split
    · rename_i h1
      exact word_ok (.inl rfl) (by simp [wordB, h1]) hl
    · split
      · rename_i h1 h2
        exact word_ok (.inr rfl) (by simp [wordB, h2]) hl
      · split
        · rename_i h3
          exact num_ok h3 hl
        · split
          · rw [List.length_cons] at hl
            exact str_ok _ _ r.length r _ _ (Nat.le_refl _) (by omega) (by omega)
          · exact sign_ok hl signs (by decide)
/-- The tokens from a place on. -/
def allP (l : Bytes) (p : Nat) : Rs := allGo l (l.length + 1 - p) p
theorem allP_end {l : Bytes} {p : Nat} (h : ¬ p < l.length) : allP l p = .ok [⟨0, ⟨#[]⟩, 0, l.length⟩] := by
  unfold allP
  cases h2 : l.length + 1 - p with
  | zero => rfl
  | succ f => rw [allGo, if_neg h]
theorem allGo_more {l : Bytes} : ∀ (f g p : Nat), l.length + 1 - p ≤ f → l.length + 1 - p ≤ g → p ≤ l.length → allGo l f p = allGo l g p
  | 0, g, p, h1, _, h3 => by omega
  | f + 1, 0, p, _, h2, h3 => by omega
  | f + 1, g + 1, p, h1, h2, h3 => by
    rw [allGo, allGo]
    by_cases hp : p < l.length
    · rw [if_pos hp, if_pos hp]
      have ho := next_ok hp
      cases hN : nextM (l.drop p) p with
      | no a b => rfl
      | ok t e =>
        rw [hN] at ho
        have hs := skip_le false (l.drop e)
        rw [List.length_drop] at hs
        have := allGo_more (l := l) f g (e + skipM false (l.drop e)) (by have := ho.1; omega) (by have := ho.1; omega) (by have := ho.2.1; omega)
        simp only
        rw [this]
    · rw [if_neg hp, if_neg hp]
theorem allP_no {l : Bytes} {p : Nat} (hp : p < l.length) {a : Int} {b : Nat} (h : nextM (l.drop p) p = .no a b) : allP l p = .no a b := by
  unfold allP
  rw [show l.length + 1 - p = (l.length - p) + 1 by omega, allGo, if_pos hp, h]
theorem allP_ok {l : Bytes} {p : Nat} (hp : p < l.length) {t : Tk} {e : Nat} (h : nextM (l.drop p) p = .ok t e) : allP l p = (allP l (e + skipM false (l.drop e))).cons t := by
  have ho := next_ok hp
  rw [h] at ho
  have hs := skip_le false (l.drop e)
  rw [List.length_drop] at hs
  unfold allP
  rw [show l.length + 1 - p = (l.length - p) + 1 by omega, allGo, if_pos hp, h]
  simp only
  rw [allGo_more (l.length - p) (l.length + 1 - (e + skipM false (l.drop e))) _ (by have := ho.1; omega) (Nat.le_refl _) (by have := ho.2.1; omega)]
theorem allM_eq (l : Bytes) : allM l = allP l (skipM false l) := by
  unfold allM allP
  have hs := skip_le false l
  exact allGo_more _ _ _ (by omega) (Nat.le_refl _) hs
theorem pre_cons (acc : List Tk) (t : Tk) (r : Rs) : (r.cons t).pre acc = r.pre (acc ++ [t]) := by cases r <;> simp [Rs.cons, Rs.pre]
/-- Tokens from place q on: rising, of known kinds, and an End at the end. -/
def Rising (n : Nat) : Nat → List Tk → Prop
  | q, [] => False
  | q, [t] => t = ⟨0, ⟨#[]⟩, 0, n⟩ ∧ q ≤ n
  | q, t :: l => (∃ p : Nat, t.at' = p ∧ q ≤ p ∧ p < n ∧ 1 ≤ t.kind ∧ t.kind ≤ 5 ∧ Rising n (p + 1) l)
def RsOK (n q : Nat) : Rs → Prop
  | .ok l => Rising n q l
  | .no tag p => (tag = 1 ∨ tag = 3) ∧ p ≤ n
theorem rising_more {n q q' : Nat} {l : List Tk} (h : Rising n q l) (hq : q' ≤ q) : Rising n q' l := by
  match l, h with
  | [t], h => exact ⟨h.1, by have := h.2; omega⟩
  | t :: u :: l, ⟨p, h1, h2, h3⟩ => exact ⟨p, h1, by omega, h3⟩
theorem all_ok (l : Bytes) : ∀ (k p : Nat), l.length - p ≤ k → p ≤ l.length → RsOK l.length p (allP l p)
  | k, p, hk, hp => by
    by_cases h : p < l.length
    · have ho := next_ok h
      cases hN : nextM (l.drop p) p with
      | no a b => rw [allP_no h hN]; rw [hN] at ho; exact ⟨ho.1, ho.2.2⟩
      | ok t e =>
        rw [hN] at ho
        rw [allP_ok h hN]
        have hs := skip_le false (l.drop e)
        rw [List.length_drop] at hs
        cases k with
        | zero => omega
        | succ k =>
          have ih := all_ok l k (e + skipM false (l.drop e)) (by have := ho.1; omega) (by have := ho.2.1; omega)
          cases hA : allP l (e + skipM false (l.drop e)) with
          | no a b => rw [hA] at ih; exact ih
          | ok L =>
            rw [hA] at ih
            have ih' : Rising l.length (e + skipM false (l.drop e)) L := ih
            cases L with
            | nil => exact ih'.elim
            | cons u L => exact ⟨p, ho.2.2.1, Nat.le_refl _, h, ho.2.2.2.1, ho.2.2.2.2, rising_more ih' (by have := ho.1; omega)⟩
    · rw [allP_end h]; exact ⟨rfl, hp⟩
end Go.Proofs.YtecijhaclbbccaaDoor
