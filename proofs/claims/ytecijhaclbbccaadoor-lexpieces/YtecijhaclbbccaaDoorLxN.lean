/- Quoted texts: mathematics, lex.Quote and the statements' own quote. -/
import Derived.Test.YtecijhaclbbccaaDoorLxJ
namespace Go.Proofs.YtecijhaclbbccaaDoor
open Go.RowKit
set_option linter.unusedVariables false
set_option linter.unusedSimpArgs false

/-- A byte as it is written within quotes. -/
def qB (b : UInt8) : Bytes := if b.toNat = 10 then [92, 110] else if b.toNat = 34 then [92, 34] else if b.toNat = 92 then [92, 92] else [b]
def quoteM (l : Bytes) : Bytes := l.flatMap qB
def quoteT (l : Bytes) : Bytes := 34 :: (quoteM l ++ [34])
def fineB (b : UInt8) : Bool := decide (32 ≤ b.toNat) || decide (b.toNat = 10)
theorem u8_eq {b : UInt8} {n : Nat} (hn : n < 256) (h : b.toNat = n) : b = UInt8.ofNat n := by rw [← h, UInt8.ofNat_toNat]
theorem strGo_q (p : Nat) (b : UInt8) (r : Bytes) (i : Nat) (acc : Bytes) (hb : fineB b = true) : strGo p (qB b ++ r) i acc = strGo p r (i + (qB b).length) (acc ++ [b]) := by
  unfold qB
  by_cases h1 : b.toNat = 10
  · rw [if_pos h1]
    have := str_esc (p := p) (i := i) (b := 92) (c := 110) (r := r) (acc := acc) rfl (v := 10) rfl
    rw [show ([92, 110] ++ r : Bytes) = 92 :: 110 :: r from rfl, this, u8_eq (by omega) h1]; rfl
  · rw [if_neg h1]
    by_cases h2 : b.toNat = 34
    · rw [if_pos h2]
      have := str_esc (p := p) (i := i) (b := 92) (c := 34) (r := r) (acc := acc) rfl (v := 34) rfl
      rw [show ([92, 34] ++ r : Bytes) = 92 :: 34 :: r from rfl, this, u8_eq (by omega) h2]; rfl
    · rw [if_neg h2]
      by_cases h3 : b.toNat = 92
      · rw [if_pos h3]
        have := str_esc (p := p) (i := i) (b := 92) (c := 92) (r := r) (acc := acc) rfl (v := 92) rfl
        rw [show ([92, 92] ++ r : Bytes) = 92 :: 92 :: r from rfl, this, u8_eq (by omega) h3]; rfl
      · rw [if_neg h3]
        unfold fineB at hb
        have h4 : ¬ b.toNat < 32 := by simp at hb; omega
        rw [show ([b] ++ r : Bytes) = b :: r from rfl, str_plain h2 h4 h3]; rfl
theorem strGo_fine (p : Nat) : ∀ (l : Bytes) (i : Nat) (acc : Bytes), l.all fineB = true → strGo p (quoteM l ++ [34]) i acc = if 40 < (acc ++ l).length then .no 3 p else .ok ⟨4, ⟨(acc ++ l).toArray⟩, 0, p⟩ (i + (quoteM l).length + 1)
  | [], i, acc, _ => by
    rw [show quoteM [] = [] from rfl, List.nil_append, List.append_nil, str_quote rfl]; rfl
  | b :: l, i, acc, h => by
    rw [List.all_cons, Bool.and_eq_true] at h
    rw [show quoteM (b :: l) = qB b ++ quoteM l from rfl, List.append_assoc, strGo_q p b _ i acc h.1, strGo_fine p l _ _ h.2, List.append_assoc, show [b] ++ l = b :: l from rfl, show (qB b ++ quoteM l).length = (qB b).length + (quoteM l).length from List.length_append, ← Nat.add_assoc]
theorem strGo_bad (p : Nat) : ∀ (l : Bytes) (i : Nat) (acc : Bytes), l.all fineB = false → ∃ q, strGo p (quoteM l ++ [34]) i acc = .no 1 q
  | [], i, acc, h => by cases h
  | b :: l, i, acc, h => by
    rw [show quoteM (b :: l) = qB b ++ quoteM l from rfl, List.append_assoc]
    cases hb : fineB b with
    | true =>
      rw [List.all_cons, hb, Bool.true_and] at h
      rw [strGo_q p b _ i acc hb]
      exact strGo_bad p l _ _ h
    | false =>
      unfold fineB at hb
      have h4 : b.toNat < 32 ∧ ¬ b.toNat = 10 := by simp at hb; omega
      refine ⟨i, ?_⟩
      unfold qB
      rw [if_neg h4.2, if_neg (by omega), if_neg (by omega)]
      exact str_low h4.1
theorem next_quote (r : Bytes) : nextM (34 :: r) 0 = strGo 0 r 1 [] := rfl
theorem allM_quote {r : Bytes} : allM (34 :: r) = allP (34 :: r) 0 := allM_eq _
theorem all_fine {l : Bytes} (h : l.all fineB = true) (hl : l.length ≤ 40) : allM (quoteT l) = .ok [⟨4, ⟨l.toArray⟩, 0, 0⟩, ⟨0, ⟨#[]⟩, 0, (quoteT l).length⟩] := by
  have h1 : nextM ((quoteT l).drop 0) 0 = .ok ⟨4, ⟨l.toArray⟩, 0, 0⟩ (quoteT l).length := by
    rw [List.drop_zero]
    unfold quoteT
    rw [next_quote, strGo_fine 0 l 1 [] h, List.nil_append, if_neg (by omega)]
    simp; omega
  unfold quoteT
  rw [allM_quote]
  rw [show 34 :: (quoteM l ++ [34]) = quoteT l from rfl]
  rw [allP_ok (by simp [quoteT]) h1, List.drop_length, show skipM false [] = 0 from rfl, Nat.add_zero, allP_end (by omega)]
  rfl
theorem all_bad {l : Bytes} (h : l.all fineB = false) : ∃ q, allM (quoteT l) = .no 1 q := by
  obtain ⟨q, hq⟩ := strGo_bad 0 l 1 [] h
  refine ⟨q, ?_⟩
  unfold quoteT
  rw [allM_quote, allP_no (by simp) (show nextM (List.drop 0 (34 :: (quoteM l ++ [34]))) 0 = _ by rw [List.drop_zero, next_quote]; exact hq)]
theorem quoteM_len (l : Bytes) : (quoteM l).length ≤ 2 * l.length := by
  induction l with
  | nil => simp [quoteM]
  | cons b l ih =>
    rw [show quoteM (b :: l) = qB b ++ quoteM l from rfl, List.length_append, List.length_cons]
    have : (qB b).length ≤ 2 := by unfold qB; split; simp; split; simp; split <;> simp
    omega
theorem quoteM_take {s : ByteArray} {k : Nat} (h : k < s.size) : quoteM ((bs s).take (k + 1)) = quoteM ((bs s).take k) ++ qB s[k] := by
  have hl : k < (bs s).length := by rw [bs_len]; exact h
  rw [List.take_succ_eq_append_getElem hl]
  simp only [quoteM, List.flatMap_append, List.flatMap_cons, List.flatMap_nil, List.append_nil]
  rfl
end Go.Proofs.YtecijhaclbbccaaDoor
