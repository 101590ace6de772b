/- Contract of the statements' own Few. -/
import Derived.Test.YtcecndjkfdaaaaaDoorSg7
namespace Go.Proofs.YtcecndjkfdaaaaaDoor
open Go.RowKit
set_option linter.unusedVariables false
set_option linter.unusedSimpArgs false

/-- Few rows, of few numbers. -/
def fewB (A : List RV) : Bool := decide (A.length ≤ 60) && A.all fun x => decide (x.2.1.length ≤ 8)
theorem few_ok {A : List RV} (h : fewB A = true) : A.length ≤ 60 ∧ ∀ x ∈ A, x.2.1.length ≤ 8 := by
  unfold fewB at h
  simp only [Bool.and_eq_true, decide_eq_true_eq, List.all_eq_true] at h
  exact h
theorem few_calls (a : Option Addr) (cap : Nat) (A : List RV) (w : World) (hR : RRow w a A) (hm : A.length ≤ maxLen) (hx : ∀ x ∈ A, x.2.1.length ≤ maxLen) :
    Calls Tryd.prog 11 #[.slice a A.length cap] w fun e w' => e = .returned (.bool (fewB A)) ∧ w = w' := by
  unfold maxLen at hm
  have HX := Lib.hid hx
  have HR := Lib.hid hR
  clear hx hR
  by_cases h0 : 60 < A.length
  · have R : Hid (fewB A = false) := Lib.hid (by unfold fewB; simp; intro h; omega)
    go_enter Tryd.func11, Tryd.ntmps11
    go_wp2_with fail
    go_ret
    exact ⟨ret_b R.out.symm, rfl⟩
  · have t0 : decide ((60 : Int) < (A.length : Int)) = false := decide_eq_false (by omega)
    have hl : A.length ≤ 60 := by omega
    go_enter Tryd.func11, Tryd.ntmps11
    go_wp2_with fail
    go_loop [10] (fun s => ∃ k : Nat, k ≤ A.length ∧ s = .int .i64 k ∧ Hid ((A.take k).all (fun x => decide (x.2.1.length ≤ 8)) = true)) (fun s => A.length - (intOf s).toNat)
    case atStart => exact ⟨0, Nat.zero_le _, rfl, Lib.hid rfl⟩
    case round =>
      obtain ⟨k, hk, rfl, HA⟩ := hrel
      by_cases hlt : k < A.length
      · obtain ⟨b, off, rfl, hb, hcell, _, _⟩ := HR.out.at hlt
        have hxl := HX.out _ (atV_mem hlt)
        unfold maxLen at hxl
        have TS : Hid (A.take (k + 1) = A.take k ++ [atV A k]) := Lib.hid (by rw [List.take_succ_eq_append_getElem hlt, atV_eq hlt])
        have MM : Hid (atV A k ∈ A) := Lib.hid (atV_mem hlt)
        obtain ⟨x, hx⟩ : ∃ x, atV A k = x := ⟨_, rfl⟩
        rw [hx] at hcell hxl TS MM
        clear hx
        obtain ⟨xa, xz, xc⟩ := x
        simp only at hcell hxl
        by_cases h8 : 8 < xz.length
        · have R : Hid (fewB A = false) := Lib.hid (by
            cases hf : fewB A with
            | false => rfl
            | true => have := (few_ok hf).2 _ MM.out; simp only at this; omega)
          go_wp2_with fail
          go_ret
          exact ⟨ret_b R.out.symm, rfl⟩
        · have t1 : decide ((8 : Int) < (xz.length : Int)) = false := decide_eq_false (by omega)
          have NX : Hid ((A.take (k + 1)).all (fun x => decide (x.2.1.length ≤ 8)) = true) := Lib.hid (by rw [TS.out, List.all_append, HA.out]; simp; omega)
          clear h8
          go_wp2_with fail
          go_round
          case rel => exact ⟨k + 1, by omega, by go_num, NX⟩
          case measure => simp [intOf]; omega
      · have R : Hid (fewB A = true) := Lib.hid (by
          have := HA.out
          rw [List.take_of_length_le (by omega)] at this
          unfold fewB; rw [this]; simp; omega)
        go_wp2_with fail
        go_ret
        exact ⟨ret_b R.out.symm, rfl⟩

theorem row2 {w : World} {b : Nat} {x y : Int} (h0 : w.cell? ⟨b, 0, none⟩ = some (.int .i64 x)) (h1 : w.cell? ⟨b, 1, none⟩ = some (.int .i64 y)) (hb : b < w.heap.size) : Row w (some ⟨b, 0, none⟩) [x, y] := by
  refine .inr ⟨b, 0, rfl, hb, fun i hi => ?_⟩
  match i, hi with
  | 0, _ => exact h0
  | 1, _ => exact h1
def TrueRet5 (w : World) (e : Ending) (w' : World) : Prop := e = .returned (.bool true) ∧ Below w.heap.size w w'
end Go.Proofs.YtcecndjkfdaaaaaDoor
