/- Contracts of lex.Plain and of the statements' own plain. Written by mklxp.py. -/
import Derived.Test.YtecijhaclbbccaaDoorLxJ
namespace Go.Proofs.YtecijhaclbbccaaDoor
open Go.RowKit
set_option linter.unusedVariables false
set_option linter.unusedSimpArgs false

def okB (i b : Nat) : Bool := if i = 0 then lowB b else wordB b
/-- A text that is one name, but not 'not'. -/
def PlainP (s : ByteArray) : Prop := ¬ s = ⟨#[]⟩ ∧ ¬ s = ⟨#[110, 111, 116]⟩ ∧ ∀ i (h : i < s.size), okB i (s[i]).toNat = true
theorem low_word {b : Nat} (h : lowB b = true) : wordB b = true := by simp [wordB, h]
theorem wordM_all (l : Bytes) : wordM l = l.length ↔ ∀ b ∈ l, wordB b.toNat = true := by
  induction l with
  | nil => simp [wordM]
  | cons b l ih =>
    rw [wordM_cons, List.length_cons]
    by_cases h : wordB b.toNat = true
    · rw [if_pos h]; simp [h, ← ih]
    · rw [if_neg h]; simp [h]
theorem bs_mem {s : ByteArray} {b : UInt8} (h : b ∈ bs s) : ∃ i, ∃ (hi : i < s.size), s[i] = b := by
  obtain ⟨i, hi, e⟩ := List.getElem_of_mem h
  exact ⟨i, by rw [bs_len] at hi; exact hi, e⟩
theorem mem_bs {s : ByteArray} {i : Nat} (hi : i < s.size) : s[i] ∈ bs s := by
  have h2 : i < (bs s).length := by rw [bs_len]; exact hi
  exact List.getElem_mem h2
theorem plain_iff {s : ByteArray} (h0 : 0 < s.size) (h1 : ¬ s = ⟨#[]⟩) (h2 : ¬ s = ⟨#[110, 111, 116]⟩) (hl : lowB (s[0]).toNat = true) : wordM (bs s) = s.size ↔ PlainP s := by
  rw [← bs_len s, wordM_all]
  constructor
  · intro H
    refine ⟨h1, h2, fun i hi => ?_⟩
    unfold okB
    by_cases e : i = 0
    · subst e; rw [if_pos rfl]; exact hl
    · rw [if_neg e]; exact H _ (mem_bs hi)
  · rintro ⟨_, _, H⟩ b hb
    obtain ⟨i, hi, rfl⟩ := bs_mem hb
    have := H i hi
    unfold okB at this
    by_cases e : i = 0
    · subst e; exact low_word hl
    · rw [if_neg e] at this; exact this
theorem toList_ne {x y : ByteArray} (h : ¬ x = y) : (x.toList == y.toList) = false := by
  rw [ByteArray.toList_eq, ByteArray.toList_eq]
  refine beq_eq_false_iff_ne.2 fun e => h ?_
  cases x; cases y; simp only [ByteArray.mk.injEq]; exact Array.toList_inj.1 e
theorem bytes_lit (l : List UInt8) : (⟨l.toArray⟩ : ByteArray).toList = l := by rw [ByteArray.toList_eq]
theorem size_pos {s : ByteArray} (h : ¬ s = ⟨#[]⟩) : 0 < s.size := by
  refine Nat.pos_of_ne_zero fun h0 => h ?_
  cases s with
  | mk d => have : d = #[] := Array.eq_empty_of_size_eq_zero h0
            rw [this]
def IffRet (p : Prop) (w : World) (e : Ending) (w' : World) : Prop := (∃ b : Bool, e = .returned (.bool b) ∧ (b = true ↔ p)) ∧ w = w'
set_option maxRecDepth 100000 in
theorem plain_calls (s : ByteArray) (w : World) (hs : s.size ≤ 1000) : Calls Tryd.prog 14 #[.string s] w (IffRet (PlainP s) w) := by
  by_cases h1 : s = ⟨#[]⟩
  · subst h1
    go_enter Tryd.func14, Tryd.ntmps14
    go_wp2_with fail
    go_ret
    exact ⟨⟨false, rfl, ⟨(fun h => by cases h), fun h => absurd rfl h.1⟩⟩, rfl⟩
  by_cases h2 : s = ⟨#[110, 111, 116]⟩
  · subst h2
    go_enter Tryd.func14, Tryd.ntmps14
    go_wp2_with fail
    go_ret
    exact ⟨⟨false, rfl, ⟨(fun h => by cases h), fun h => absurd rfl h.2.1⟩⟩, rfl⟩
  have h0 := size_pos h1
  have n0 : s.toList.isEmpty = false := by have h5 := toList_ne (x := ⟨#[]⟩) (y := s) (fun h => h1 h.symm); rw [show (⟨#[]⟩ : ByteArray).toList = [] from bytes_lit []] at h5; cases hs : s.toList with | nil => rw [hs] at h5; cases h5 | cons a b => rfl
  have n1 : (s.toList == ([110, 111, 116] : List UInt8)) = false := by have h5 := toList_ne (x := s) (y := ⟨#[110, 111, 116]⟩) h2; rw [show (⟨#[110, 111, 116]⟩ : ByteArray).toList = [110, 111, 116] from bytes_lit _] at h5; exact h5
  have n2 : ¬ s.toList = ([110, 111, 116] : List UInt8) := fun e => by rw [e] at n1; cases n1
  have n3 : ¬ s.toList = ([] : List UInt8) := fun e => by rw [e] at n0; cases n0
  have cl := isLower_calls (s[0]).toNat w
  have cw : Calls Tryd.prog 25 #[.string s, .int .i64 0] w fun e w' => e = .returned (.int .i64 (wordM (bs s) : Nat)) ∧ w = w' := by
    have := wordEnd_calls s 0 w (by omega) (by omega)
    rw [Nat.zero_add, List.drop_zero] at this; exact this
  cases hb : lowB (s[0]).toNat with
  | false =>
    rw [hb] at cl
    have NO : Hid (¬ PlainP s) := Lib.hid (fun h => by have := h.2.2 0 h0; unfold okB at this; rw [if_pos rfl, hb] at this; cases this)
    clear hb h1 h2
    go_enter Tryd.func14, Tryd.ntmps14
    go_wp2_with fail
    refine cl.mono ?_
    rintro e w' ⟨rfl, rfl⟩
    go_wp2_with fail
    go_ret
    exact ⟨⟨false, rfl, ⟨(fun h => by cases h), fun h => absurd h NO.out⟩⟩, rfl⟩
  | true =>
    rw [hb] at cl
    have IF := Lib.hid (plain_iff h0 h1 h2 hb)
    clear hb h1 h2
    generalize wordM (bs s) = m at *
    go_enter Tryd.func14, Tryd.ntmps14
    go_wp2_with fail
    refine cl.mono ?_
    rintro e w' ⟨rfl, rfl⟩
    go_wp2_with fail
    refine cw.mono ?_
    rintro e w' ⟨rfl, rfl⟩
    go_wp2_with fail
    go_ret
    refine ⟨⟨_, rfl, ?_⟩, rfl⟩
    rw [beq_iff_eq, ← IF.out]
    omega
set_option maxRecDepth 100000 in
set_option maxHeartbeats 4000000 in
theorem lawPlain_calls (s : ByteArray) (w : World) (hs : s.size ≤ 1000) : Calls Tryd.prog 15 #[.string s] w (IffRet (PlainP s) w) := by
  go_enter Tryd.func15, Tryd.ntmps15
  go_wp2_with fail
  go_loop [3] (fun i => ∃ k : Nat, k ≤ s.size ∧ i = .int .i64 k ∧ Hid (∀ i (h : i < s.size), i < k → okB i (s[i]).toNat = true)) (fun i => s.size - (intOf i).toNat)
  case atStart => exact ⟨0, Nat.zero_le _, rfl, Lib.hid (fun i h hi => by omega)⟩
  case round =>
    obtain ⟨k, hk, rfl, HP⟩ := hrel
    by_cases hlt : k < s.size
    · skip
      by_cases hc : (s[k]).toNat < 48
      · have ta : decide (97 ≤ (s[k]).toNat) = false := decide_eq_false (by omega)
        have ua : decide ((97 : Int) ≤ ((s[k]).toNat : Int)) = false := decide_eq_false (by omega)
        have tb : decide ((s[k]).toNat ≤ 122) = true := decide_eq_true (by omega)
        have ub : decide (((s[k]).toNat : Int) ≤ 122) = true := decide_eq_true (by omega)
        have tc : decide (65 ≤ (s[k]).toNat) = false := decide_eq_false (by omega)
        have uc : decide ((65 : Int) ≤ ((s[k]).toNat : Int)) = false := decide_eq_false (by omega)
        have td : decide ((s[k]).toNat ≤ 90) = true := decide_eq_true (by omega)
        have ud : decide (((s[k]).toNat : Int) ≤ 90) = true := decide_eq_true (by omega)
        have te : decide (48 ≤ (s[k]).toNat) = false := decide_eq_false (by omega)
        have ue : decide ((48 : Int) ≤ ((s[k]).toNat : Int)) = false := decide_eq_false (by omega)
        have tf : decide ((s[k]).toNat ≤ 57) = true := decide_eq_true (by omega)
        have uf : decide (((s[k]).toNat : Int) ≤ 57) = true := decide_eq_true (by omega)
        have tg : (((s[k]).toNat : Int) == 95) = false := beq_eq_false_iff_ne.2 (by omega)
        by_cases hz : k = 0
        · have NO : Hid (¬ PlainP s) := Lib.hid (fun h => by
            have h9 := h.2.2 k hlt
            unfold okB lowB at h9
            rw [if_pos hz] at h9
            simp at h9; omega)
          have tz : ((k : Int) == 0) = true := by simp [hz]
          have tz2 : (k == 0) = true := by simp [hz]
          clear hc hz
          go_wp2_with fail
          go_ret
          exact ⟨⟨false, rfl, ⟨(fun h => by cases h), fun h => absurd h NO.out⟩⟩, rfl⟩
        have tz : ((k : Int) == 0) = false := beq_eq_false_iff_ne.2 (by omega)
        have tz2 : (k == 0) = false := beq_eq_false_iff_ne.2 (by omega)
        have NO : Hid (¬ PlainP s) := Lib.hid (fun h => by
          have h9 := h.2.2 k hlt
          unfold okB at h9
          rw [if_neg hz] at h9
          unfold wordB lowB upB digB at h9
          simp at h9; omega)
        clear hc hz
        go_wp2_with fail
        go_ret
        exact ⟨⟨false, rfl, ⟨(fun h => by cases h), fun h => absurd h NO.out⟩⟩, rfl⟩
      have nc0 := hc
      clear hc
      by_cases hc : 48 ≤ (s[k]).toNat ∧ (s[k]).toNat ≤ 57
      · have ta : decide (97 ≤ (s[k]).toNat) = false := decide_eq_false (by omega)
        have ua : decide ((97 : Int) ≤ ((s[k]).toNat : Int)) = false := decide_eq_false (by omega)
        have tb : decide ((s[k]).toNat ≤ 122) = true := decide_eq_true (by omega)
        have ub : decide (((s[k]).toNat : Int) ≤ 122) = true := decide_eq_true (by omega)
        have tc : decide (65 ≤ (s[k]).toNat) = false := decide_eq_false (by omega)
        have uc : decide ((65 : Int) ≤ ((s[k]).toNat : Int)) = false := decide_eq_false (by omega)
        have td : decide ((s[k]).toNat ≤ 90) = true := decide_eq_true (by omega)
        have ud : decide (((s[k]).toNat : Int) ≤ 90) = true := decide_eq_true (by omega)
        have te : decide (48 ≤ (s[k]).toNat) = true := decide_eq_true (by omega)
        have ue : decide ((48 : Int) ≤ ((s[k]).toNat : Int)) = true := decide_eq_true (by omega)
        have tf : decide ((s[k]).toNat ≤ 57) = true := decide_eq_true (by omega)
        have uf : decide (((s[k]).toNat : Int) ≤ 57) = true := decide_eq_true (by omega)
        have tg : (((s[k]).toNat : Int) == 95) = false := beq_eq_false_iff_ne.2 (by omega)
        by_cases hz : k = 0
        · have NO : Hid (¬ PlainP s) := Lib.hid (fun h => by
            have h9 := h.2.2 k hlt
            unfold okB lowB at h9
            rw [if_pos hz] at h9
            simp at h9; omega)
          have tz : ((k : Int) == 0) = true := by simp [hz]
          have tz2 : (k == 0) = true := by simp [hz]
          clear hc hz
          go_wp2_with fail
          go_ret
          exact ⟨⟨false, rfl, ⟨(fun h => by cases h), fun h => absurd h NO.out⟩⟩, rfl⟩
        have tz : ((k : Int) == 0) = false := beq_eq_false_iff_ne.2 (by omega)
        have tz2 : (k == 0) = false := beq_eq_false_iff_ne.2 (by omega)
        have NX : Hid (∀ i (h : i < s.size), i < k + 1 → okB i (s[i]).toNat = true) := Lib.hid (fun i h hi => by
          by_cases e : i = k
          · subst e
            unfold okB; rw [if_neg hz]
            unfold wordB upB digB
            simp; omega
          · exact HP.out i h (by omega))
        clear hc hz
        go_wp2_with fail
        go_round
        case rel => exact ⟨k + 1, by omega, by go_num, NX⟩
        case measure => simp [intOf]; omega
      have nc1 := hc
      clear hc
      by_cases hc : 57 < (s[k]).toNat ∧ (s[k]).toNat < 65
      · have ta : decide (97 ≤ (s[k]).toNat) = false := decide_eq_false (by omega)
        have ua : decide ((97 : Int) ≤ ((s[k]).toNat : Int)) = false := decide_eq_false (by omega)
        have tb : decide ((s[k]).toNat ≤ 122) = true := decide_eq_true (by omega)
        have ub : decide (((s[k]).toNat : Int) ≤ 122) = true := decide_eq_true (by omega)
        have tc : decide (65 ≤ (s[k]).toNat) = false := decide_eq_false (by omega)
        have uc : decide ((65 : Int) ≤ ((s[k]).toNat : Int)) = false := decide_eq_false (by omega)
        have td : decide ((s[k]).toNat ≤ 90) = true := decide_eq_true (by omega)
        have ud : decide (((s[k]).toNat : Int) ≤ 90) = true := decide_eq_true (by omega)
        have te : decide (48 ≤ (s[k]).toNat) = true := decide_eq_true (by omega)
        have ue : decide ((48 : Int) ≤ ((s[k]).toNat : Int)) = true := decide_eq_true (by omega)
        have tf : decide ((s[k]).toNat ≤ 57) = false := decide_eq_false (by omega)
        have uf : decide (((s[k]).toNat : Int) ≤ 57) = false := decide_eq_false (by omega)
        have tg : (((s[k]).toNat : Int) == 95) = false := beq_eq_false_iff_ne.2 (by omega)
        by_cases hz : k = 0
        · have NO : Hid (¬ PlainP s) := Lib.hid (fun h => by
            have h9 := h.2.2 k hlt
            unfold okB lowB at h9
            rw [if_pos hz] at h9
            simp at h9; omega)
          have tz : ((k : Int) == 0) = true := by simp [hz]
          have tz2 : (k == 0) = true := by simp [hz]
          clear hc hz
          go_wp2_with fail
          go_ret
          exact ⟨⟨false, rfl, ⟨(fun h => by cases h), fun h => absurd h NO.out⟩⟩, rfl⟩
        have tz : ((k : Int) == 0) = false := beq_eq_false_iff_ne.2 (by omega)
        have tz2 : (k == 0) = false := beq_eq_false_iff_ne.2 (by omega)
        have NO : Hid (¬ PlainP s) := Lib.hid (fun h => by
          have h9 := h.2.2 k hlt
          unfold okB at h9
          rw [if_neg hz] at h9
          unfold wordB lowB upB digB at h9
          simp at h9; omega)
        clear hc hz
        go_wp2_with fail
        go_ret
        exact ⟨⟨false, rfl, ⟨(fun h => by cases h), fun h => absurd h NO.out⟩⟩, rfl⟩
      have nc2 := hc
      clear hc
      by_cases hc : 65 ≤ (s[k]).toNat ∧ (s[k]).toNat ≤ 90
      · have ta : decide (97 ≤ (s[k]).toNat) = false := decide_eq_false (by omega)
        have ua : decide ((97 : Int) ≤ ((s[k]).toNat : Int)) = false := decide_eq_false (by omega)
        have tb : decide ((s[k]).toNat ≤ 122) = true := decide_eq_true (by omega)
        have ub : decide (((s[k]).toNat : Int) ≤ 122) = true := decide_eq_true (by omega)
        have tc : decide (65 ≤ (s[k]).toNat) = true := decide_eq_true (by omega)
        have uc : decide ((65 : Int) ≤ ((s[k]).toNat : Int)) = true := decide_eq_true (by omega)
        have td : decide ((s[k]).toNat ≤ 90) = true := decide_eq_true (by omega)
        have ud : decide (((s[k]).toNat : Int) ≤ 90) = true := decide_eq_true (by omega)
        have te : decide (48 ≤ (s[k]).toNat) = true := decide_eq_true (by omega)
        have ue : decide ((48 : Int) ≤ ((s[k]).toNat : Int)) = true := decide_eq_true (by omega)
        have tf : decide ((s[k]).toNat ≤ 57) = false := decide_eq_false (by omega)
        have uf : decide (((s[k]).toNat : Int) ≤ 57) = false := decide_eq_false (by omega)
        have tg : (((s[k]).toNat : Int) == 95) = false := beq_eq_false_iff_ne.2 (by omega)
        by_cases hz : k = 0
        · have NO : Hid (¬ PlainP s) := Lib.hid (fun h => by
            have h9 := h.2.2 k hlt
            unfold okB lowB at h9
            rw [if_pos hz] at h9
            simp at h9; omega)
          have tz : ((k : Int) == 0) = true := by simp [hz]
          have tz2 : (k == 0) = true := by simp [hz]
          clear hc hz
          go_wp2_with fail
          go_ret
          exact ⟨⟨false, rfl, ⟨(fun h => by cases h), fun h => absurd h NO.out⟩⟩, rfl⟩
        have tz : ((k : Int) == 0) = false := beq_eq_false_iff_ne.2 (by omega)
        have tz2 : (k == 0) = false := beq_eq_false_iff_ne.2 (by omega)
        have NX : Hid (∀ i (h : i < s.size), i < k + 1 → okB i (s[i]).toNat = true) := Lib.hid (fun i h hi => by
          by_cases e : i = k
          · subst e
            unfold okB; rw [if_neg hz]
            unfold wordB upB digB
            simp; omega
          · exact HP.out i h (by omega))
        clear hc hz
        go_wp2_with fail
        go_round
        case rel => exact ⟨k + 1, by omega, by go_num, NX⟩
        case measure => simp [intOf]; omega
      have nc3 := hc
      clear hc
      by_cases hc : 90 < (s[k]).toNat ∧ (s[k]).toNat < 95
      · have ta : decide (97 ≤ (s[k]).toNat) = false := decide_eq_false (by omega)
        have ua : decide ((97 : Int) ≤ ((s[k]).toNat : Int)) = false := decide_eq_false (by omega)
        have tb : decide ((s[k]).toNat ≤ 122) = true := decide_eq_true (by omega)
        have ub : decide (((s[k]).toNat : Int) ≤ 122) = true := decide_eq_true (by omega)
        have tc : decide (65 ≤ (s[k]).toNat) = true := decide_eq_true (by omega)
        have uc : decide ((65 : Int) ≤ ((s[k]).toNat : Int)) = true := decide_eq_true (by omega)
        have td : decide ((s[k]).toNat ≤ 90) = false := decide_eq_false (by omega)
        have ud : decide (((s[k]).toNat : Int) ≤ 90) = false := decide_eq_false (by omega)
        have te : decide (48 ≤ (s[k]).toNat) = true := decide_eq_true (by omega)
        have ue : decide ((48 : Int) ≤ ((s[k]).toNat : Int)) = true := decide_eq_true (by omega)
        have tf : decide ((s[k]).toNat ≤ 57) = false := decide_eq_false (by omega)
        have uf : decide (((s[k]).toNat : Int) ≤ 57) = false := decide_eq_false (by omega)
        have tg : (((s[k]).toNat : Int) == 95) = false := beq_eq_false_iff_ne.2 (by omega)
        by_cases hz : k = 0
        · have NO : Hid (¬ PlainP s) := Lib.hid (fun h => by
            have h9 := h.2.2 k hlt
            unfold okB lowB at h9
            rw [if_pos hz] at h9
            simp at h9; omega)
          have tz : ((k : Int) == 0) = true := by simp [hz]
          have tz2 : (k == 0) = true := by simp [hz]
          clear hc hz
          go_wp2_with fail
          go_ret
          exact ⟨⟨false, rfl, ⟨(fun h => by cases h), fun h => absurd h NO.out⟩⟩, rfl⟩
        have tz : ((k : Int) == 0) = false := beq_eq_false_iff_ne.2 (by omega)
        have tz2 : (k == 0) = false := beq_eq_false_iff_ne.2 (by omega)
        have NO : Hid (¬ PlainP s) := Lib.hid (fun h => by
          have h9 := h.2.2 k hlt
          unfold okB at h9
          rw [if_neg hz] at h9
          unfold wordB lowB upB digB at h9
          simp at h9; omega)
        clear hc hz
        go_wp2_with fail
        go_ret
        exact ⟨⟨false, rfl, ⟨(fun h => by cases h), fun h => absurd h NO.out⟩⟩, rfl⟩
      have nc4 := hc
      clear hc
      by_cases hc : (s[k]).toNat = 95
      · have ta : decide (97 ≤ (s[k]).toNat) = false := decide_eq_false (by omega)
        have ua : decide ((97 : Int) ≤ ((s[k]).toNat : Int)) = false := decide_eq_false (by omega)
        have tb : decide ((s[k]).toNat ≤ 122) = true := decide_eq_true (by omega)
        have ub : decide (((s[k]).toNat : Int) ≤ 122) = true := decide_eq_true (by omega)
        have tc : decide (65 ≤ (s[k]).toNat) = true := decide_eq_true (by omega)
        have uc : decide ((65 : Int) ≤ ((s[k]).toNat : Int)) = true := decide_eq_true (by omega)
        have td : decide ((s[k]).toNat ≤ 90) = false := decide_eq_false (by omega)
        have ud : decide (((s[k]).toNat : Int) ≤ 90) = false := decide_eq_false (by omega)
        have te : decide (48 ≤ (s[k]).toNat) = true := decide_eq_true (by omega)
        have ue : decide ((48 : Int) ≤ ((s[k]).toNat : Int)) = true := decide_eq_true (by omega)
        have tf : decide ((s[k]).toNat ≤ 57) = false := decide_eq_false (by omega)
        have uf : decide (((s[k]).toNat : Int) ≤ 57) = false := decide_eq_false (by omega)
        have tg : (((s[k]).toNat : Int) == 95) = true := by rw [beq_iff_eq]; omega
        by_cases hz : k = 0
        · have NO : Hid (¬ PlainP s) := Lib.hid (fun h => by
            have h9 := h.2.2 k hlt
            unfold okB lowB at h9
            rw [if_pos hz] at h9
            simp at h9; omega)
          have tz : ((k : Int) == 0) = true := by simp [hz]
          have tz2 : (k == 0) = true := by simp [hz]
          clear hc hz
          go_wp2_with fail
          go_ret
          exact ⟨⟨false, rfl, ⟨(fun h => by cases h), fun h => absurd h NO.out⟩⟩, rfl⟩
        have tz : ((k : Int) == 0) = false := beq_eq_false_iff_ne.2 (by omega)
        have tz2 : (k == 0) = false := beq_eq_false_iff_ne.2 (by omega)
        have NX : Hid (∀ i (h : i < s.size), i < k + 1 → okB i (s[i]).toNat = true) := Lib.hid (fun i h hi => by
          by_cases e : i = k
          · subst e
            unfold okB; rw [if_neg hz]
            unfold wordB upB digB
            simp; omega
          · exact HP.out i h (by omega))
        clear hc hz
        go_wp2_with fail
        go_round
        case rel => exact ⟨k + 1, by omega, by go_num, NX⟩
        case measure => simp [intOf]; omega
      have nc5 := hc
      clear hc
      by_cases hc : (s[k]).toNat = 96
      · have ta : decide (97 ≤ (s[k]).toNat) = false := decide_eq_false (by omega)
        have ua : decide ((97 : Int) ≤ ((s[k]).toNat : Int)) = false := decide_eq_false (by omega)
        have tb : decide ((s[k]).toNat ≤ 122) = true := decide_eq_true (by omega)
        have ub : decide (((s[k]).toNat : Int) ≤ 122) = true := decide_eq_true (by omega)
        have tc : decide (65 ≤ (s[k]).toNat) = true := decide_eq_true (by omega)
        have uc : decide ((65 : Int) ≤ ((s[k]).toNat : Int)) = true := decide_eq_true (by omega)
        have td : decide ((s[k]).toNat ≤ 90) = false := decide_eq_false (by omega)
        have ud : decide (((s[k]).toNat : Int) ≤ 90) = false := decide_eq_false (by omega)
        have te : decide (48 ≤ (s[k]).toNat) = true := decide_eq_true (by omega)
        have ue : decide ((48 : Int) ≤ ((s[k]).toNat : Int)) = true := decide_eq_true (by omega)
        have tf : decide ((s[k]).toNat ≤ 57) = false := decide_eq_false (by omega)
        have uf : decide (((s[k]).toNat : Int) ≤ 57) = false := decide_eq_false (by omega)
        have tg : (((s[k]).toNat : Int) == 95) = false := beq_eq_false_iff_ne.2 (by omega)
        by_cases hz : k = 0
        · have NO : Hid (¬ PlainP s) := Lib.hid (fun h => by
            have h9 := h.2.2 k hlt
            unfold okB lowB at h9
            rw [if_pos hz] at h9
            simp at h9; omega)
          have tz : ((k : Int) == 0) = true := by simp [hz]
          have tz2 : (k == 0) = true := by simp [hz]
          clear hc hz
          go_wp2_with fail
          go_ret
          exact ⟨⟨false, rfl, ⟨(fun h => by cases h), fun h => absurd h NO.out⟩⟩, rfl⟩
        have tz : ((k : Int) == 0) = false := beq_eq_false_iff_ne.2 (by omega)
        have tz2 : (k == 0) = false := beq_eq_false_iff_ne.2 (by omega)
        have NO : Hid (¬ PlainP s) := Lib.hid (fun h => by
          have h9 := h.2.2 k hlt
          unfold okB at h9
          rw [if_neg hz] at h9
          unfold wordB lowB upB digB at h9
          simp at h9; omega)
        clear hc hz
        go_wp2_with fail
        go_ret
        exact ⟨⟨false, rfl, ⟨(fun h => by cases h), fun h => absurd h NO.out⟩⟩, rfl⟩
      have nc6 := hc
      clear hc
      by_cases hc : 97 ≤ (s[k]).toNat ∧ (s[k]).toNat ≤ 122
      · have ta : decide (97 ≤ (s[k]).toNat) = true := decide_eq_true (by omega)
        have ua : decide ((97 : Int) ≤ ((s[k]).toNat : Int)) = true := decide_eq_true (by omega)
        have tb : decide ((s[k]).toNat ≤ 122) = true := decide_eq_true (by omega)
        have ub : decide (((s[k]).toNat : Int) ≤ 122) = true := decide_eq_true (by omega)
        have tc : decide (65 ≤ (s[k]).toNat) = true := decide_eq_true (by omega)
        have uc : decide ((65 : Int) ≤ ((s[k]).toNat : Int)) = true := decide_eq_true (by omega)
        have td : decide ((s[k]).toNat ≤ 90) = false := decide_eq_false (by omega)
        have ud : decide (((s[k]).toNat : Int) ≤ 90) = false := decide_eq_false (by omega)
        have te : decide (48 ≤ (s[k]).toNat) = true := decide_eq_true (by omega)
        have ue : decide ((48 : Int) ≤ ((s[k]).toNat : Int)) = true := decide_eq_true (by omega)
        have tf : decide ((s[k]).toNat ≤ 57) = false := decide_eq_false (by omega)
        have uf : decide (((s[k]).toNat : Int) ≤ 57) = false := decide_eq_false (by omega)
        have tg : (((s[k]).toNat : Int) == 95) = false := beq_eq_false_iff_ne.2 (by omega)
        have NX : Hid (∀ i (h : i < s.size), i < k + 1 → okB i (s[i]).toNat = true) := Lib.hid (fun i h hi => by
          by_cases e : i = k
          · subst e
            have hlo : lowB (s[i]).toNat = true := by unfold lowB; simp; omega
            unfold okB; split
            · exact hlo
            · exact low_word hlo
          · exact HP.out i h (by omega))
        clear hc
        go_wp2_with fail
        go_round
        case rel => exact ⟨k + 1, by omega, by go_num, NX⟩
        case measure => simp [intOf]; omega
      have nc7 := hc
      clear hc
      have hc : 122 < (s[k]).toNat := by omega
      have ta : decide (97 ≤ (s[k]).toNat) = true := decide_eq_true (by omega)
      have ua : decide ((97 : Int) ≤ ((s[k]).toNat : Int)) = true := decide_eq_true (by omega)
      have tb : decide ((s[k]).toNat ≤ 122) = false := decide_eq_false (by omega)
      have ub : decide (((s[k]).toNat : Int) ≤ 122) = false := decide_eq_false (by omega)
      have tc : decide (65 ≤ (s[k]).toNat) = true := decide_eq_true (by omega)
      have uc : decide ((65 : Int) ≤ ((s[k]).toNat : Int)) = true := decide_eq_true (by omega)
      have td : decide ((s[k]).toNat ≤ 90) = false := decide_eq_false (by omega)
      have ud : decide (((s[k]).toNat : Int) ≤ 90) = false := decide_eq_false (by omega)
      have te : decide (48 ≤ (s[k]).toNat) = true := decide_eq_true (by omega)
      have ue : decide ((48 : Int) ≤ ((s[k]).toNat : Int)) = true := decide_eq_true (by omega)
      have tf : decide ((s[k]).toNat ≤ 57) = false := decide_eq_false (by omega)
      have uf : decide (((s[k]).toNat : Int) ≤ 57) = false := decide_eq_false (by omega)
      have tg : (((s[k]).toNat : Int) == 95) = false := beq_eq_false_iff_ne.2 (by omega)
      by_cases hz : k = 0
      · have NO : Hid (¬ PlainP s) := Lib.hid (fun h => by
          have h9 := h.2.2 k hlt
          unfold okB lowB at h9
          rw [if_pos hz] at h9
          simp at h9; omega)
        have tz : ((k : Int) == 0) = true := by simp [hz]
        have tz2 : (k == 0) = true := by simp [hz]
        clear hc hz
        go_wp2_with fail
        go_ret
        exact ⟨⟨false, rfl, ⟨(fun h => by cases h), fun h => absurd h NO.out⟩⟩, rfl⟩
      have tz : ((k : Int) == 0) = false := beq_eq_false_iff_ne.2 (by omega)
      have tz2 : (k == 0) = false := beq_eq_false_iff_ne.2 (by omega)
      have NO : Hid (¬ PlainP s) := Lib.hid (fun h => by
        have h9 := h.2.2 k hlt
        unfold okB at h9
        rw [if_neg hz] at h9
        unfold wordB lowB upB digB at h9
        simp at h9; omega)
      clear hc hz
      go_wp2_with fail
      go_ret
      exact ⟨⟨false, rfl, ⟨(fun h => by cases h), fun h => absurd h NO.out⟩⟩, rfl⟩
    · have ALL : Hid (∀ i (h : i < s.size), okB i (s[i]).toNat = true) := Lib.hid (fun i h => HP.out i h (by omega))
      clear HP
      by_cases h1 : s = ⟨#[]⟩
      · have n0 : s.toList.isEmpty = true := by rw [h1, show (⟨#[]⟩ : ByteArray).toList = [] from bytes_lit []]; rfl
        have NO : Hid (¬ PlainP s) := Lib.hid (fun h => h.1 h1)
        clear h1
        go_wp2_with fail
        go_ret
        exact ⟨⟨false, rfl, ⟨(fun h => by cases h), fun h => absurd h NO.out⟩⟩, rfl⟩
      by_cases h2 : s = ⟨#[110, 111, 116]⟩
      · have n9 : s.toList = ([110, 111, 116] : List UInt8) := by rw [h2]; exact bytes_lit _
        have n0 : s.toList.isEmpty = false := by rw [n9]; rfl
        have n1 : (s.toList == ([110, 111, 116] : List UInt8)) = true := by rw [n9]; rfl
        have NO : Hid (¬ PlainP s) := Lib.hid (fun h => h.2.1 h2)
        clear h1 h2
        go_wp2_with fail
        go_ret
        exact ⟨⟨false, rfl, ⟨(fun h => by cases h), fun h => absurd h NO.out⟩⟩, rfl⟩
      have n0 : s.toList.isEmpty = false := by have h5 := toList_ne (x := ⟨#[]⟩) (y := s) (fun h => h1 h.symm); rw [show (⟨#[]⟩ : ByteArray).toList = [] from bytes_lit []] at h5; cases hs : s.toList with | nil => rw [hs] at h5; cases h5 | cons a b => rfl
      have n1 : (s.toList == ([110, 111, 116] : List UInt8)) = false := by have h5 := toList_ne (x := s) (y := ⟨#[110, 111, 116]⟩) h2; rw [show (⟨#[110, 111, 116]⟩ : ByteArray).toList = [110, 111, 116] from bytes_lit _] at h5; exact h5
      have n2 : ¬ s.toList = ([110, 111, 116] : List UInt8) := fun e => by rw [e] at n1; cases n1
      have n3 : ¬ s.toList = ([] : List UInt8) := fun e => by rw [e] at n0; cases n0
      have YES : Hid (PlainP s) := Lib.hid ⟨h1, h2, ALL.out⟩
      clear h1 h2
      go_wp2_with fail
      go_ret
      exact ⟨⟨true, rfl, ⟨fun _ => YES.out, fun _ => rfl⟩⟩, rfl⟩
end Go.Proofs.YtecijhaclbbccaaDoor
