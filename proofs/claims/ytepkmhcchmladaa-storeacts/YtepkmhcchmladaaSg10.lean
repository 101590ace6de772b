import Derived.Test.YtepkmhcchmladaaSg9
/- Contracts of Has, and of the statements' own Few and head. -/
namespace Go.Proofs.Ytepkmhcchmladaa
open Go.RowKit
set_option linter.unusedVariables false
set_option linter.unusedSimpArgs false

theorem prefix_has {rs : List (List Int)} {q : List Int} {f t wd : Nat} (hw : ∀ r ∈ rs, r.length = wd) (h : PrefixAt rs q f t) (hq : q.length = wd) : f < t ↔ q ∈ rs := by
  constructor
  · intro hft
    have hl : f < rs.length := Nat.lt_of_lt_of_le hft h.2.1
    have e := h.same (Nat.le_refl f) hft
    have hm := rowAt_mem hl
    have hlen := hw _ hm
    rw [List.take_of_length_le (by omega)] at e
    rw [← e]; exact hm
  · intro hm
    obtain ⟨i, hi, e⟩ := List.getElem_of_mem hm
    have e' : rowAt rs i = q := by simp [rowAt, hi, e]
    obtain ⟨h1, h2⟩ := h.2.2 i hi
    rw [e', List.take_length, cmpR_self] at h1 h2
    have h3 : ¬ i < f := fun x => by have := h1.1 x; omega
    have h4 : i < t := h2.2 (by omega)
    omega
def BelowB (b : Bool) (w : World) (e : Ending) (w' : World) : Prop := e = .returned (.bool b) ∧ Below w.heap.size w w'

theorem has_calls {w : World} {p : Option Addr} {wd : Nat} {rs : List (List Int)} (h : Seg w p wd rs) (a : Option Addr) (cap : Nat) (qs : List Int) (hQ : Row w a qs) (hq : qs.length ≤ 1000000) (hwd : wd ≤ 1000) (hrs : rs.length ≤ 1000000) :
    Calls Try.prog 14 #[.pointer p, .slice a qs.length cap] w (BelowB (decide (qs ∈ rs)) w) := by
  have cw := segWidth_calls h
  by_cases hl : qs.length = wd
  · have cp := prefix_calls h a cap qs hQ (by omega) hwd hrs
    have HW := Lib.hid h.2.1
    have t1 : ((qs.length : Int) != (wd : Int)) = false := by simp [hl]
    have HL := Lib.hid hl
    clear h hl
    go_enter Try.func14, Try.ntmps14
    go_wp2_with (first | (go_at_call 36; refine cw.mono ?_; rintro e w' ⟨rfl, rfl⟩))
    refine cp.mono ?_
    rintro e w' ⟨f, t, rfl, hP, hb⟩
    have B := Lib.hid hb
    by_cases hft : f < t
    · have R : Hid (decide (qs ∈ rs) = true) := Lib.hid (decide_eq_true ((prefix_has HW.out hP HL.out).1 hft))
      clear hb hP
      go_wp2_with fail
      go_ret
      exact ⟨ret_b R.out.symm, B.out⟩
    · have R : Hid (decide (qs ∈ rs) = false) := Lib.hid (decide_eq_false (fun hm => hft ((prefix_has HW.out hP HL.out).2 hm)))
      have t2 : decide (f < t) = false := decide_eq_false hft
      clear hb hP hft
      go_wp2_with fail
      go_ret
      exact ⟨ret_b R.out.symm, B.out⟩
  · have R : Hid (decide (qs ∈ rs) = false) := Lib.hid (decide_eq_false (fun hm => hl (h.2.1 _ hm)))
    have t1 : ((qs.length : Int) != (wd : Int)) = true := by simp; omega
    clear h
    go_enter Try.func14, Try.ntmps14
    go_wp2_with (first | (go_at_call 36; refine cw.mono ?_; rintro e w' ⟨rfl, rfl⟩))
    go_ret
    exact ⟨ret_b R.out.symm, Below.refl _ _⟩

/-- Few rows, of few numbers. -/
def fewB (A : List RV) : Bool := decide (A.length ≤ 60) && A.all fun x => decide (x.2.1.length ≤ 8)
theorem few_ok {A : List RV} (h : fewB A = true) : A.length ≤ 60 ∧ ∀ x ∈ A, x.2.1.length ≤ 8 := by
  unfold fewB at h
  simp only [Bool.and_eq_true, decide_eq_true_eq, List.all_eq_true] at h
  exact h
theorem few_calls (a : Option Addr) (cap : Nat) (A : List RV) (w : World) (hR : RRow w a A) (hm : A.length ≤ maxLen) (hx : ∀ x ∈ A, x.2.1.length ≤ maxLen) :
    Calls Try.prog 19 #[.slice a A.length cap] w fun e w' => e = .returned (.bool (fewB A)) ∧ w = w' := by
  unfold maxLen at hm
  have HX := Lib.hid hx
  have HR := Lib.hid hR
  clear hx hR
  by_cases h0 : 60 < A.length
  · have R : Hid (fewB A = false) := Lib.hid (by unfold fewB; simp; intro h; omega)
    go_enter Try.func19, Try.ntmps19
    go_wp2_with fail
    go_ret
    exact ⟨ret_b R.out.symm, rfl⟩
  · have t0 : decide ((60 : Int) < (A.length : Int)) = false := decide_eq_false (by omega)
    have hl : A.length ≤ 60 := by omega
    go_enter Try.func19, Try.ntmps19
    go_wp2_with fail
    go_loop [10] (fun s => ∃ k : Nat, k ≤ A.length ∧ s = .int .i64 k ∧ Hid ((A.take k).all (fun x => decide (x.2.1.length ≤ 8)) = true)) (fun s => A.length - (intOf s).toNat)
    case atStart => exact ⟨0, Nat.zero_le _, rfl, Lib.hid rfl⟩
    case round =>
      obtain ⟨k, hk, rfl, HA⟩ := hrel
      by_cases hlt : k < A.length
      · obtain ⟨b, off, rfl, hb, hcell, _, _⟩ := HR.out.at hlt
        have hxl := HX.out _ (atV_mem hlt)
        unfold maxLen at hxl
        have TS : Hid (A.take (k + 1) = A.take k ++ [atV A k]) := Lib.hid (by rw [List.take_succ_eq_append_getElem hlt, atV_eq hlt])
        have MM : Hid (atV A k ∈ A) := Lib.hid (atV_mem hlt)
        obtain ⟨x, hx⟩ : ∃ x, atV A k = x := ⟨_, rfl⟩
        rw [hx] at hcell hxl TS MM
        clear hx
        obtain ⟨xa, xz, xc⟩ := x
        simp only at hcell hxl
        by_cases h8 : 8 < xz.length
        · have R : Hid (fewB A = false) := Lib.hid (by
            cases hf : fewB A with
            | false => rfl
            | true => have := (few_ok hf).2 _ MM.out; simp only at this; omega)
          go_wp2_with fail
          go_ret
          exact ⟨ret_b R.out.symm, rfl⟩
        · have t1 : decide ((8 : Int) < (xz.length : Int)) = false := decide_eq_false (by omega)
          have NX : Hid ((A.take (k + 1)).all (fun x => decide (x.2.1.length ≤ 8)) = true) := Lib.hid (by rw [TS.out, List.all_append, HA.out]; simp; omega)
          clear h8
          go_wp2_with fail
          go_round
          case rel => exact ⟨k + 1, by omega, by go_num, NX⟩
          case measure => simp [intOf]; omega
      · have R : Hid (fewB A = true) := Lib.hid (by
          have := HA.out
          rw [List.take_of_length_le (by omega)] at this
          unfold fewB; rw [this]; simp; omega)
        go_wp2_with fail
        go_ret
        exact ⟨ret_b R.out.symm, rfl⟩

theorem row2 {w : World} {b : Nat} {x y : Int} (h0 : w.cell? ⟨b, 0, none⟩ = some (.int .i64 x)) (h1 : w.cell? ⟨b, 1, none⟩ = some (.int .i64 y)) (hb : b < w.heap.size) : Row w (some ⟨b, 0, none⟩) [x, y] := by
  refine .inr ⟨b, 0, rfl, hb, fun i hi => ?_⟩
  match i, hi with
  | 0, _ => exact h0
  | 1, _ => exact h1
def TrueRet5 (w : World) (e : Ending) (w' : World) : Prop := e = .returned (.bool true) ∧ Below w.heap.size w w'
end Go.Proofs.Ytepkmhcchmladaa
