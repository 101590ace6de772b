/- Contracts of group's Make (with slices.Min, slices.Max, arith.Sum), isPosition and keyWidth. -/
import Derived.Test.YtcecndjkfdaaaaaDoorGrMath
import Derived.Test.YtcecndjkfdaaaaaDoorRw
namespace Go.Proofs.YtcecndjkfdaaaaaDoor
open Go.RowKit
set_option linter.unusedVariables false
set_option linter.unusedSimpArgs false

set_option maxRecDepth 100000 in
theorem min_calls (a : Option Addr) (cap : Nat) (zs : List Int) (w : World) (hR : Row w a zs) (h0 : 0 < zs.length) (hl : zs.length ≤ 1000000) : Calls Tryd.prog 19 #[.slice a zs.length cap] w fun e w' => e = .returned (.int .i64 (loL zs)) ∧ w = w' := by
  obtain ⟨b, off, rfl, hb, hc0⟩ := hR.at h0
  rw [Nat.add_zero] at hc0
  have HR := Lib.hid hR
  have F1 := Lib.hid (loF_one h0)
  have E0 : Hid (loL zs = loF zs (zs[0]?.getD 0)) := Lib.hid rfl
  generalize zs[0]?.getD 0 = z0 at *
  clear hR
  have t0 : decide ((zs.length : Int) < 1) = false := decide_eq_false (by omega)
  go_enter Tryd.func19, Tryd.ntmps19
  go_wp2_with fail
  go_loop [3, 4] (fun m i => ∃ (k : Nat) (x : Int), 1 ≤ k ∧ k ≤ zs.length ∧ i = .int .i64 k ∧ m = .int .i64 x ∧ Hid (x = loF (zs.take k) z0)) (fun _ i => zs.length - (intOf i).toNat)
  case atStart => exact ⟨1, z0, by omega, by omega, rfl, rfl, Lib.hid F1.out.symm⟩
  case round =>
    obtain ⟨k, x, hk1, hk, rfl, rfl, HX⟩ := hrel
    by_cases hlt : k < zs.length
    · obtain ⟨b2, off2, e2, hb2, hc2⟩ := HR.out.at hlt
      cases e2
      have ST := Lib.hid (loF_take z0 hlt)
      generalize zs[k]?.getD 0 = y at *
      by_cases hy : x ≤ y
      · have NX : Hid (x = loF (zs.take (k + 1)) z0) := Lib.hid (by rw [ST.out, ← HX.out, if_neg (by omega)])
        go_wp2_with fail
        go_round
        case rel => exact ⟨k + 1, x, by omega, by omega, by go_num, rfl, NX⟩
        case measure => simp [intOf]; omega
      · have hy2 : y < x := by omega
        clear hy
        have NX : Hid (y = loF (zs.take (k + 1)) z0) := Lib.hid (by rw [ST.out, ← HX.out, if_pos (by omega)])
        go_wp2_with fail
        go_round
        case rel => exact ⟨k + 1, y, by omega, by omega, by go_num, rfl, NX⟩
        case measure => simp [intOf]; omega
    · have FX : Hid (x = loL zs) := Lib.hid (by rw [HX.out, E0.out, List.take_of_length_le (by omega)])
      go_wp2_with fail
      go_ret
      exact ⟨ret_int FX.out, rfl⟩
set_option maxRecDepth 100000 in
theorem max_calls (a : Option Addr) (cap : Nat) (zs : List Int) (w : World) (hR : Row w a zs) (h0 : 0 < zs.length) (hl : zs.length ≤ 1000000) : Calls Tryd.prog 20 #[.slice a zs.length cap] w fun e w' => e = .returned (.int .i64 (hiL zs)) ∧ w = w' := by
  obtain ⟨b, off, rfl, hb, hc0⟩ := hR.at h0
  rw [Nat.add_zero] at hc0
  have HR := Lib.hid hR
  have F1 := Lib.hid (hiF_one h0)
  have E0 : Hid (hiL zs = hiF zs (zs[0]?.getD 0)) := Lib.hid rfl
  generalize zs[0]?.getD 0 = z0 at *
  clear hR
  have t0 : decide ((zs.length : Int) < 1) = false := decide_eq_false (by omega)
  go_enter Tryd.func20, Tryd.ntmps20
  go_wp2_with fail
  go_loop [3, 4] (fun m i => ∃ (k : Nat) (x : Int), 1 ≤ k ∧ k ≤ zs.length ∧ i = .int .i64 k ∧ m = .int .i64 x ∧ Hid (x = hiF (zs.take k) z0)) (fun _ i => zs.length - (intOf i).toNat)
  case atStart => exact ⟨1, z0, by omega, by omega, rfl, rfl, Lib.hid F1.out.symm⟩
  case round =>
    obtain ⟨k, x, hk1, hk, rfl, rfl, HX⟩ := hrel
    by_cases hlt : k < zs.length
    · obtain ⟨b2, off2, e2, hb2, hc2⟩ := HR.out.at hlt
      cases e2
      have ST := Lib.hid (hiF_take z0 hlt)
      generalize zs[k]?.getD 0 = y at *
      by_cases hy : y ≤ x
      · have NX : Hid (x = hiF (zs.take (k + 1)) z0) := Lib.hid (by rw [ST.out, ← HX.out, if_neg (by omega)])
        go_wp2_with fail
        go_round
        case rel => exact ⟨k + 1, x, by omega, by omega, by go_num, rfl, NX⟩
        case measure => simp [intOf]; omega
      · have hy2 : x < y := by omega
        clear hy
        have NX : Hid (y = hiF (zs.take (k + 1)) z0) := Lib.hid (by rw [ST.out, ← HX.out, if_pos (by omega)])
        go_wp2_with fail
        go_round
        case rel => exact ⟨k + 1, y, by omega, by omega, by go_num, rfl, NX⟩
        case measure => simp [intOf]; omega
    · have FX : Hid (x = hiL zs) := Lib.hid (by rw [HX.out, E0.out, List.take_of_length_le (by omega)])
      go_wp2_with fail
      go_ret
      exact ⟨ret_int FX.out, rfl⟩
theorem row_reads {w : World} {a : Option Addr} {zs : List Int} (cap : Nat) (h : Row w a zs) : Reads w (.slice a zs.length cap) zs := by
  rcases h with rfl | ⟨b, off, rfl, _, hc⟩
  · exact .inl ⟨rfl, a, cap, rfl⟩
  · exact .inr ⟨b, off, cap, rfl, hc⟩
def InR (zs : List Int) : Prop := ∀ z ∈ zs, -9223372036854775808 ≤ z ∧ z ≤ 9223372036854775807
set_option maxRecDepth 100000 in
theorem make_agg (k : Int) (a : Option Addr) (cap : Nat) (zs : List Int) (w : World) (hR : Row w a zs) (hl : zs.length ≤ 1000) (hz : InR zs) :
    Calls Tryd.prog 7 #[.int .i64 k, .slice a zs.length cap] w fun e w' => e = .returned (.tuple #[.int .i64 (vOf (mkOf k zs)), .bool (okOf (mkOf k zs))]) ∧ w = w' := by
  by_cases h0 : zs.length = 0
  · obtain rfl : zs = [] := List.eq_nil_of_length_eq_zero h0
    have E := Lib.hid (mkOf_nil k)
    clear hR hz h0
    go_enter Tryd.func7, Tryd.ntmps7
    go_wp2_with fail
    go_ret2
    exact ⟨ret_two (by rw [E.out]; rfl) (by rw [E.out]; rfl), rfl⟩
  · have h1 : 0 < zs.length := by omega
    have t0 : ((zs.length : Int) == 0) = false := beq_eq_false_iff_ne.2 (by omega)
    by_cases e1 : k = 1
    · subst e1
      have E := Lib.hid (mkOf_1 h1)
      clear hR hz h0
      go_enter Tryd.func7, Tryd.ntmps7
      go_wp2_with fail
      go_ret2
      exact ⟨ret_two (by rw [E.out]; rfl) (by rw [E.out]; rfl), rfl⟩
    · by_cases e2 : k = 2
      · subst e2
        have E := Lib.hid (mkOf_2 h1)
        have c := sumlist_calls _ zs w (row_reads cap hR) hl hz
        clear hR hz h0
        go_enter Tryd.func7, Tryd.ntmps7
        go_wp2_with fail
        refine c.mono ?_
        rintro e w' ⟨rfl, rfl⟩
        go_wp2_with fail
        go_ret2
        exact ⟨ret_two E.out.2.symm E.out.1.symm, rfl⟩
      · by_cases e3 : k = 3
        · subst e3
          have E := Lib.hid (mkOf_3 h1)
          have c := min_calls a cap zs w hR h1 (by omega)
          clear hR hz h0
          go_enter Tryd.func7, Tryd.ntmps7
          go_wp2_with fail
          refine c.mono ?_
          rintro e w' ⟨rfl, rfl⟩
          go_wp2_with fail
          go_ret2
          exact ⟨ret_two (by rw [E.out]; rfl) (by rw [E.out]; rfl), rfl⟩
        · by_cases e4 : k = 4
          · subst e4
            have E := Lib.hid (mkOf_4 h1)
            have c := max_calls a cap zs w hR h1 (by omega)
            clear hR hz h0
            go_enter Tryd.func7, Tryd.ntmps7
            go_wp2_with fail
            refine c.mono ?_
            rintro e w' ⟨rfl, rfl⟩
            go_wp2_with fail
            go_ret2
            exact ⟨ret_two (by rw [E.out]; rfl) (by rw [E.out]; rfl), rfl⟩
          · have E : Hid (mkOf k zs = none) := Lib.hid (mkOf_no (by omega))
            have t1 : (k == 1) = false := beq_eq_false_iff_ne.2 e1
            have t2 : (k == 2) = false := beq_eq_false_iff_ne.2 e2
            have t3 : (k == 3) = false := beq_eq_false_iff_ne.2 e3
            have t4 : (k == 4) = false := beq_eq_false_iff_ne.2 e4
            clear hR hz h0
            go_enter Tryd.func7, Tryd.ntmps7
            go_wp2_with fail
            go_ret2
            exact ⟨ret_two (by rw [E.out]; rfl) (by rw [E.out]; rfl), rfl⟩
end Go.Proofs.YtcecndjkfdaaaaaDoor
