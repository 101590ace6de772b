/- Contracts of Compare, and of the statements' own at, few, Texts. -/
import Derived.Test.YtplckcnmpnnkgaaIn2
namespace Go.Proofs.Ytplckcnmpnnkgaa
open Go.RowKit Go.Maps
set_option linter.unusedVariables false
set_option linter.unusedSimpArgs false

theorem toList_ne {s t : ByteArray} (h : ¬ s = t) : (s.toList == t.toList) = false := by
  rw [ByteArray.toList_eq, ByteArray.toList_eq]
  simp only [beq_eq_false_iff_ne, ne_eq]
  intro e
  apply h
  cases s; cases t; simp only [ByteArray.mk.injEq]; exact Array.toList_inj.1 e

/-! ### comparing -/
def cmpS (s t : ByteArray) : Int := if Op.bytesLess s.toList t.toList = true then -1 else if (s.toList == t.toList) = true then 0 else 1
def cmpI (a b : Int) : Int := if a < b then -1 else if b < a then 1 else 0
def inT (ts : List ByteArray) (a : Int) : Bool := decide (0 ≤ a) && decide (a < ts.length)
def atT (ts : List ByteArray) (a : Int) : ByteArray := ts.getD a.toNat ByteArray.empty
def cmpT (ts : List ByteArray) (a b : Int) : Int :=
  if inT ts a = true then (if inT ts b = true then cmpS (atT ts a) (atT ts b) else 1) else if inT ts b = true then -1 else cmpI a b

theorem less_irrefl : ∀ x : List UInt8, Op.bytesLess x x = false
  | [] => by simp [Op.bytesLess]
  | a :: x => by simp [Op.bytesLess, less_irrefl x]
theorem less_asymm : ∀ x y : List UInt8, Op.bytesLess x y = true → Op.bytesLess y x = false
  | [], [], h => by simp [Op.bytesLess] at h
  | _ :: _, [], h => by simp [Op.bytesLess] at h
  | [], _ :: _, h => by simp [Op.bytesLess]
  | a :: x, b :: y, h => by
    simp only [Op.bytesLess] at h ⊢
    by_cases h1 : a < b
    · have h2 : ¬ b < a := fun h3 => by simp only [UInt8.lt_iff_toNat_lt] at *; omega
      have h4 : ¬ b = a := fun e => by rw [e] at h1; simp only [UInt8.lt_iff_toNat_lt] at *; omega
      simp [h2, h4]
    · simp only [h1, decide_false, Bool.false_or, Bool.and_eq_true] at h
      obtain ⟨h2, h3⟩ := h
      have e : a = b := by simpa using h2
      subst e
      simp [h1, less_asymm x y h3]
theorem less_total : ∀ x y : List UInt8, Op.bytesLess x y = false → Op.bytesLess y x = false → x = y
  | [], [], _, _ => rfl
  | _ :: _, [], _, h => by simp [Op.bytesLess] at h
  | [], _ :: _, h, _ => by simp [Op.bytesLess] at h
  | a :: x, b :: y, h, h' => by
    simp only [Op.bytesLess, Bool.or_eq_false_iff, decide_eq_false_iff_not, Bool.and_eq_false_iff] at h h'
    have e : a = b := by
      have h1 := h.1; have h2 := h'.1
      simp only [UInt8.lt_iff_toNat_lt] at h1 h2
      exact UInt8.toNat_inj.1 (by omega)
    subst e
    have h3 : Op.bytesLess x y = false := by rcases h.2 with h | h; simp at h; exact h
    have h4 : Op.bytesLess y x = false := by rcases h'.2 with h | h; simp at h; exact h
    rw [less_total x y h3 h4]
theorem cmpS_neg (s t : ByteArray) : cmpS s t = -cmpS t s := by
  unfold cmpS
  by_cases h1 : Op.bytesLess s.toList t.toList = true
  · have h2 := less_asymm _ _ h1
    have h3 : ¬ (t.toList == s.toList) = true := by
      intro e; simp only [beq_iff_eq] at e; rw [e, less_irrefl] at h1; cases h1
    simp [h1, h2, h3]
  · have h1' : Op.bytesLess s.toList t.toList = false := by simpa using h1
    by_cases h2 : Op.bytesLess t.toList s.toList = true
    · have h3 : ¬ (s.toList == t.toList) = true := by
        intro e; simp only [beq_iff_eq] at e; rw [e, less_irrefl] at h2; cases h2
      simp [h1', h2, h3]
    · have h2' : Op.bytesLess t.toList s.toList = false := by simpa using h2
      have e := less_total _ _ h1' h2'
      simp [e, less_irrefl]
theorem cmpI_neg (a b : Int) : cmpI a b = -cmpI b a := by unfold cmpI; split <;> split <;> (try split) <;> omega
theorem cmpT_neg (ts : List ByteArray) (a b : Int) : cmpT ts a b = -cmpT ts b a := by
  unfold cmpT
  cases inT ts a <;> cases inT ts b <;> simp [cmpS_neg (atT ts a), cmpI_neg a b]

theorem nanS_calls (s : ByteArray) (w : World) : Calls Try.prog 22 #[.string s] w fun e w' => e = .returned (.bool false) ∧ w = w' := by
  go_enter Try.func22, Try.ntmps22
  go_wp2_with fail
  go_ret
  exact ⟨rfl, rfl⟩
theorem nanI_calls (a : Int) (w : World) : Calls Try.prog 23 #[.int .i64 a] w fun e w' => e = .returned (.bool false) ∧ w = w' := by
  go_enter Try.func23, Try.ntmps23
  go_wp2_with fail
  go_ret
  exact ⟨rfl, rfl⟩
theorem cmpS_calls (s t : ByteArray) (w : World) : Calls Try.prog 18 #[.string s, .string t] w fun e w' => e = .returned (.int .i64 (cmpS s t)) ∧ w = w' := by
  by_cases h1 : Op.bytesLess s.toList t.toList = true
  · have E := Lib.hid (show cmpS s t = -1 from if_pos h1)
    go_enter Try.func18, Try.ntmps18
    go_wp2_with (first | (go_at_call 22; refine (nanS_calls _ _).mono ?_; rintro e w' ⟨rfl, rfl⟩))
    go_ret
    exact ⟨ret_i64 E.out.symm, rfl⟩
  · have h1' : Op.bytesLess s.toList t.toList = false := by simpa using h1
    by_cases h2 : (s.toList == t.toList) = true
    · have E : Hid (cmpS s t = 0) := Lib.hid (by unfold cmpS; rw [if_neg h1, if_pos h2])
      clear h1
      go_enter Try.func18, Try.ntmps18
      go_wp2_with (first | (go_at_call 22; refine (nanS_calls _ _).mono ?_; rintro e w' ⟨rfl, rfl⟩))
      go_ret
      exact ⟨ret_i64 E.out.symm, rfl⟩
    · have E : Hid (cmpS s t = 1) := Lib.hid (by unfold cmpS; rw [if_neg h1, if_neg h2])
      have h2' : (s.toList == t.toList) = false := by simpa using h2
      clear h1 h2
      go_enter Try.func18, Try.ntmps18
      go_wp2_with (first | (go_at_call 22; refine (nanS_calls _ _).mono ?_; rintro e w' ⟨rfl, rfl⟩))
      go_ret
      exact ⟨ret_i64 E.out.symm, rfl⟩
theorem cmpI_calls (a b : Int) (w : World) : Calls Try.prog 19 #[.int .i64 a, .int .i64 b] w fun e w' => e = .returned (.int .i64 (cmpI a b)) ∧ w = w' := by
  rcases Int.lt_trichotomy a b with h | h | h
  · have E : Hid (cmpI a b = -1) := Lib.hid (if_pos h)
    go_enter Try.func19, Try.ntmps19
    go_wp2_with (first | (go_at_call 23; refine (nanI_calls _ _).mono ?_; rintro e w' ⟨rfl, rfl⟩))
    go_ret
    exact ⟨ret_i64 E.out.symm, rfl⟩
  · subst h
    have E : Hid (cmpI a a = 0) := Lib.hid (by unfold cmpI; simp)
    go_enter Try.func19, Try.ntmps19
    go_wp2_with (first | (go_at_call 23; refine (nanI_calls _ _).mono ?_; rintro e w' ⟨rfl, rfl⟩))
    go_ret
    exact ⟨ret_i64 E.out.symm, rfl⟩
  · have E : Hid (cmpI a b = 1) := Lib.hid (by unfold cmpI; rw [if_neg (by omega), if_pos h])
    have h' : ¬ a < b := by omega
    go_enter Try.func19, Try.ntmps19
    go_wp2_with (first | (go_at_call 23; refine (nanI_calls _ _).mono ?_; rintro e w' ⟨rfl, rfl⟩))
    go_ret
    exact ⟨ret_i64 E.out.symm, rfl⟩

theorem text_in {N : Nat → Prop} {w : World} {g : Nat} {ts : List ByteArray} (h : Tab N w g ts) (id : Int) (hl : ts.length ≤ 1000000) (hi : inT ts id = true) :
    Calls Try.prog 15 #[.pointer (some ⟨g, 0, none⟩), .int .i64 id] w fun e w' => e = .returned (.tuple #[.string (atT ts id), .bool true]) ∧ w = w' := by
  simp only [inT, Bool.and_eq_true, decide_eq_true_eq] at hi
  refine (text_calls h id hl).mono ?_
  rintro e w' ⟨rfl, ⟨_, _, rfl⟩ | ⟨h1, _⟩⟩
  · exact ⟨rfl, rfl⟩
  · exact absurd hi h1
theorem text_out {N : Nat → Prop} {w : World} {g : Nat} {ts : List ByteArray} (h : Tab N w g ts) (id : Int) (hl : ts.length ≤ 1000000) (hi : inT ts id = false) :
    Calls Try.prog 15 #[.pointer (some ⟨g, 0, none⟩), .int .i64 id] w fun e w' => e = .returned (.tuple #[.string ⟨#[]⟩, .bool false]) ∧ w = w' := by
  refine (text_calls h id hl).mono ?_
  rintro e w' ⟨rfl, ⟨h0, h1, rfl⟩ | ⟨h1, rfl⟩⟩
  · simp [inT, h0, h1] at hi
  · exact ⟨rfl, rfl⟩

set_option maxHeartbeats 400000 in
theorem compare_calls {N : Nat → Prop} {w : World} {g : Nat} {ts : List ByteArray} (h : Tab N w g ts) (a b : Int) (hl : ts.length ≤ 1000000) :
    Calls Try.prog 16 #[.pointer (some ⟨g, 0, none⟩), .int .i64 a, .int .i64 b] w fun e w' => e = .returned (.int .i64 (cmpT ts a b)) ∧ w = w' := by
  cases ha : inT ts a <;> cases hb : inT ts b
  · have E : Hid (cmpT ts a b = cmpI a b) := Lib.hid (by simp [cmpT, ha, hb])
    have HA := Lib.hid ha
    have HB := Lib.hid hb
    clear ha hb
    go_enter Try.func16, Try.ntmps16
    go_wp2_with fail
    refine (text_out h a hl HA.out).mono ?_
    rintro e w' ⟨rfl, rfl⟩
    go_wp2_with fail
    refine (text_out h b hl HB.out).mono ?_
    rintro e w' ⟨rfl, rfl⟩
    go_wp2_with (first | (go_at_call 19; refine (cmpI_calls _ _ _).mono ?_; rintro e w' ⟨rfl, rfl⟩))
    go_ret
    exact ⟨ret_i64 E.out.symm, rfl⟩
  · have E : Hid (cmpT ts a b = -1) := Lib.hid (by simp [cmpT, ha, hb])
    have HA := Lib.hid ha
    have HB := Lib.hid hb
    clear ha hb
    go_enter Try.func16, Try.ntmps16
    go_wp2_with fail
    refine (text_out h a hl HA.out).mono ?_
    rintro e w' ⟨rfl, rfl⟩
    go_wp2_with fail
    refine (text_in h b hl HB.out).mono ?_
    rintro e w' ⟨rfl, rfl⟩
    go_wp2_with fail
    go_ret
    exact ⟨ret_i64 E.out.symm, rfl⟩
  · have E : Hid (cmpT ts a b = 1) := Lib.hid (by simp [cmpT, ha, hb])
    have HA := Lib.hid ha
    have HB := Lib.hid hb
    clear ha hb
    go_enter Try.func16, Try.ntmps16
    go_wp2_with fail
    refine (text_in h a hl HA.out).mono ?_
    rintro e w' ⟨rfl, rfl⟩
    go_wp2_with fail
    refine (text_out h b hl HB.out).mono ?_
    rintro e w' ⟨rfl, rfl⟩
    go_wp2_with fail
    go_ret
    exact ⟨ret_i64 E.out.symm, rfl⟩
  · have E : Hid (cmpT ts a b = cmpS (atT ts a) (atT ts b)) := Lib.hid (by simp [cmpT, ha, hb])
    have HA := Lib.hid ha
    have HB := Lib.hid hb
    clear ha hb
    go_enter Try.func16, Try.ntmps16
    go_wp2_with fail
    refine (text_in h a hl HA.out).mono ?_
    rintro e w' ⟨rfl, rfl⟩
    go_wp2_with fail
    refine (text_in h b hl HB.out).mono ?_
    rintro e w' ⟨rfl, rfl⟩
    go_wp2_with (first | (go_at_call 18; refine (cmpS_calls _ _ _).mono ?_; rintro e w' ⟨rfl, rfl⟩))
    go_ret
    exact ⟨ret_i64 E.out.symm, rfl⟩
end Go.Proofs.Ytplckcnmpnnkgaa
