import Derived.Test.YtepkmhcchmladaaSg7
/- Contract of sort.Search, at the closures of this program. (Written by mksg8.py.) -/
namespace Go.Proofs.Ytepkmhcchmladaa
open Go.RowKit
set_option linter.unusedVariables false
set_option linter.unusedSimpArgs false

/-- The first index at which p holds. -/
def FirstAt (p : Nat → Bool) (n k : Nat) : Prop := k ≤ n ∧ (∀ i, i < k → p i = false) ∧ ∀ i, k ≤ i → i < n → p i = true
def SearchRet (p : Nat → Bool) (n : Nat) (w : World) (e : Ending) (w' : World) : Prop := ∃ k q : Nat, e = .returned (.int .i64 k) ∧ FirstAt p n k ∧ w' = w.drewN q

set_option maxRecDepth 100000 in
set_option maxHeartbeats 2000000 in
theorem search51 (c1 c2 : Value) (n : Nat) (p : Nat → Bool) (w : World) (hn : n ≤ 1000000) (hf : ∀ q i : Nat, i < n → Calls Try.prog 67 #[.int .i64 i, c1, c2] (w.drewN q) (Quiet (.bool (p i)) (w.drewN q))) (hm : ∀ a b, a ≤ b → b < n → p a = true → p b = true) :
    Calls Try.prog 66 #[.int .i64 n, .func (.func 67) #[] #[c1, c2]] w (SearchRet p n w) := by
  have HF := Lib.hid hf
  have HM := Lib.hid hm
  clear hf hm
  go_enter Try.func66, Try.ntmps66
  go_wp2_with fail
  go_loopw [5, 6] (fun s5 s6 wr => ∃ i j q : Nat, s5 = .int .i64 i ∧ s6 = .int .i64 j ∧ i ≤ j ∧ j ≤ n ∧ Hid (∀ x, x < i → p x = false) ∧ Hid (∀ x, j ≤ x → x < n → p x = true) ∧ Hid (wr = w.drewN q)) (fun s5 s6 _ => (intOf s6).toNat - (intOf s5).toNat)
  case atStart => exact ⟨0, n, 0, rfl, rfl, Nat.zero_le _, Nat.le_refl _, Lib.hid (fun x hx => by omega), Lib.hid (fun x h1 h2 => by omega), Lib.hid rfl⟩
  case round =>
    obtain ⟨i, j, q, rfl, rfl, hij, hjn, HL, HR, HW⟩ := hrel
    by_cases hlt : i < j
    · obtain ⟨h, hh⟩ : ∃ h, (i + j) / 2 = h := ⟨_, rfl⟩
      have hhI : ((i : Int) + (j : Int)) / 2 = (h : Int) := by omega
      have HI := Lib.hid hhI
      have h1 : i ≤ h := by omega
      have h2 : h < j := by omega
      clear hh hhI
      obtain ⟨b, hb⟩ : ∃ b, p h = b := ⟨_, rfl⟩
      have HB := Lib.hid hb
      have cc : Calls Try.prog 67 #[.int .i64 h, c1, c2] wr (Quiet (.bool b) wr) := by rw [← hb, HW.out]; exact HF.out q h (by omega)
      clear hb
      cases b
      · go_wp2_with fail
        rw [HI.out]
        refine cc.mono ?_
        rintro e w2 ⟨rfl, q2, hw2⟩
        have HW2 : Hid (w2 = w.drewN (q + q2)) := Lib.hid (by rw [hw2]; exact drewM HW.out)
        clear cc hw2
        go_wp2_with fail
        go_roundw
        case rel => exact ⟨h + 1, j, q + q2, by go_num, rfl, by omega, hjn, Lib.hid (fun x hx => by
            cases hpx : p x with
            | false => rfl
            | true => have := HM.out x h (by omega) (by omega) hpx; rw [HB.out] at this; cases this), HR, HW2⟩
        case measure => simp [intOf]; omega
      · go_wp2_with fail
        rw [HI.out]
        refine cc.mono ?_
        rintro e w2 ⟨rfl, q2, hw2⟩
        have HW2 : Hid (w2 = w.drewN (q + q2)) := Lib.hid (by rw [hw2]; exact drewM HW.out)
        clear cc hw2
        go_wp2_with fail
        go_roundw
        case rel => exact ⟨i, h, q + q2, rfl, rfl, by omega, by omega, HL, Lib.hid (fun x hx hn => HM.out h x hx hn HB.out), HW2⟩
        case measure => simp [intOf]; omega
    · obtain rfl : i = j := by omega
      go_wp2_with fail
      go_ret
      exact ⟨i, q, rfl, ⟨hjn, HL.out, HR.out⟩, HW.out⟩

set_option maxRecDepth 100000 in
set_option maxHeartbeats 2000000 in
theorem search52 (c1 c2 : Value) (n : Nat) (p : Nat → Bool) (w : World) (hn : n ≤ 1000000) (hf : ∀ q i : Nat, i < n → Calls Try.prog 68 #[.int .i64 i, c1, c2] (w.drewN q) (Quiet (.bool (p i)) (w.drewN q))) (hm : ∀ a b, a ≤ b → b < n → p a = true → p b = true) :
    Calls Try.prog 66 #[.int .i64 n, .func (.func 68) #[] #[c1, c2]] w (SearchRet p n w) := by
  have HF := Lib.hid hf
  have HM := Lib.hid hm
  clear hf hm
  go_enter Try.func66, Try.ntmps66
  go_wp2_with fail
  go_loopw [5, 6] (fun s5 s6 wr => ∃ i j q : Nat, s5 = .int .i64 i ∧ s6 = .int .i64 j ∧ i ≤ j ∧ j ≤ n ∧ Hid (∀ x, x < i → p x = false) ∧ Hid (∀ x, j ≤ x → x < n → p x = true) ∧ Hid (wr = w.drewN q)) (fun s5 s6 _ => (intOf s6).toNat - (intOf s5).toNat)
  case atStart => exact ⟨0, n, 0, rfl, rfl, Nat.zero_le _, Nat.le_refl _, Lib.hid (fun x hx => by omega), Lib.hid (fun x h1 h2 => by omega), Lib.hid rfl⟩
  case round =>
    obtain ⟨i, j, q, rfl, rfl, hij, hjn, HL, HR, HW⟩ := hrel
    by_cases hlt : i < j
    · obtain ⟨h, hh⟩ : ∃ h, (i + j) / 2 = h := ⟨_, rfl⟩
      have hhI : ((i : Int) + (j : Int)) / 2 = (h : Int) := by omega
      have HI := Lib.hid hhI
      have h1 : i ≤ h := by omega
      have h2 : h < j := by omega
      clear hh hhI
      obtain ⟨b, hb⟩ : ∃ b, p h = b := ⟨_, rfl⟩
      have HB := Lib.hid hb
      have cc : Calls Try.prog 68 #[.int .i64 h, c1, c2] wr (Quiet (.bool b) wr) := by rw [← hb, HW.out]; exact HF.out q h (by omega)
      clear hb
      cases b
      · go_wp2_with fail
        rw [HI.out]
        refine cc.mono ?_
        rintro e w2 ⟨rfl, q2, hw2⟩
        have HW2 : Hid (w2 = w.drewN (q + q2)) := Lib.hid (by rw [hw2]; exact drewM HW.out)
        clear cc hw2
        go_wp2_with fail
        go_roundw
        case rel => exact ⟨h + 1, j, q + q2, by go_num, rfl, by omega, hjn, Lib.hid (fun x hx => by
            cases hpx : p x with
            | false => rfl
            | true => have := HM.out x h (by omega) (by omega) hpx; rw [HB.out] at this; cases this), HR, HW2⟩
        case measure => simp [intOf]; omega
      · go_wp2_with fail
        rw [HI.out]
        refine cc.mono ?_
        rintro e w2 ⟨rfl, q2, hw2⟩
        have HW2 : Hid (w2 = w.drewN (q + q2)) := Lib.hid (by rw [hw2]; exact drewM HW.out)
        clear cc hw2
        go_wp2_with fail
        go_roundw
        case rel => exact ⟨i, h, q + q2, rfl, rfl, by omega, by omega, HL, Lib.hid (fun x hx hn => HM.out h x hx hn HB.out), HW2⟩
        case measure => simp [intOf]; omega
    · obtain rfl : i = j := by omega
      go_wp2_with fail
      go_ret
      exact ⟨i, q, rfl, ⟨hjn, HL.out, HR.out⟩, HW.out⟩

set_option maxRecDepth 100000 in
set_option maxHeartbeats 2000000 in
theorem search68 (c1 c2 c3 c4 : Value) (n : Nat) (p : Nat → Bool) (w : World) (hn : n ≤ 1000000) (hf : ∀ q i : Nat, i < n → Calls Try.prog 77 #[.int .i64 i, c1, c2, c3, c4] (w.drewN q) (Quiet (.bool (p i)) (w.drewN q))) (hm : ∀ a b, a ≤ b → b < n → p a = true → p b = true) :
    Calls Try.prog 66 #[.int .i64 n, .func (.func 77) #[] #[c1, c2, c3, c4]] w (SearchRet p n w) := by
  have HF := Lib.hid hf
  have HM := Lib.hid hm
  clear hf hm
  go_enter Try.func66, Try.ntmps66
  go_wp2_with fail
  go_loopw [5, 6] (fun s5 s6 wr => ∃ i j q : Nat, s5 = .int .i64 i ∧ s6 = .int .i64 j ∧ i ≤ j ∧ j ≤ n ∧ Hid (∀ x, x < i → p x = false) ∧ Hid (∀ x, j ≤ x → x < n → p x = true) ∧ Hid (wr = w.drewN q)) (fun s5 s6 _ => (intOf s6).toNat - (intOf s5).toNat)
  case atStart => exact ⟨0, n, 0, rfl, rfl, Nat.zero_le _, Nat.le_refl _, Lib.hid (fun x hx => by omega), Lib.hid (fun x h1 h2 => by omega), Lib.hid rfl⟩
  case round =>
    obtain ⟨i, j, q, rfl, rfl, hij, hjn, HL, HR, HW⟩ := hrel
    by_cases hlt : i < j
    · obtain ⟨h, hh⟩ : ∃ h, (i + j) / 2 = h := ⟨_, rfl⟩
      have hhI : ((i : Int) + (j : Int)) / 2 = (h : Int) := by omega
      have HI := Lib.hid hhI
      have h1 : i ≤ h := by omega
      have h2 : h < j := by omega
      clear hh hhI
      obtain ⟨b, hb⟩ : ∃ b, p h = b := ⟨_, rfl⟩
      have HB := Lib.hid hb
      have cc : Calls Try.prog 77 #[.int .i64 h, c1, c2, c3, c4] wr (Quiet (.bool b) wr) := by rw [← hb, HW.out]; exact HF.out q h (by omega)
      clear hb
      cases b
      · go_wp2_with fail
        rw [HI.out]
        refine cc.mono ?_
        rintro e w2 ⟨rfl, q2, hw2⟩
        have HW2 : Hid (w2 = w.drewN (q + q2)) := Lib.hid (by rw [hw2]; exact drewM HW.out)
        clear cc hw2
        go_wp2_with fail
        go_roundw
        case rel => exact ⟨h + 1, j, q + q2, by go_num, rfl, by omega, hjn, Lib.hid (fun x hx => by
            cases hpx : p x with
            | false => rfl
            | true => have := HM.out x h (by omega) (by omega) hpx; rw [HB.out] at this; cases this), HR, HW2⟩
        case measure => simp [intOf]; omega
      · go_wp2_with fail
        rw [HI.out]
        refine cc.mono ?_
        rintro e w2 ⟨rfl, q2, hw2⟩
        have HW2 : Hid (w2 = w.drewN (q + q2)) := Lib.hid (by rw [hw2]; exact drewM HW.out)
        clear cc hw2
        go_wp2_with fail
        go_roundw
        case rel => exact ⟨i, h, q + q2, rfl, rfl, by omega, by omega, HL, Lib.hid (fun x hx hn => HM.out h x hx hn HB.out), HW2⟩
        case measure => simp [intOf]; omega
    · obtain rfl : i = j := by omega
      go_wp2_with fail
      go_ret
      exact ⟨i, q, rfl, ⟨hjn, HL.out, HR.out⟩, HW.out⟩
end Go.Proofs.Ytepkmhcchmladaa
