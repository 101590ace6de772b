/- (arith.Sum alone.) arith.Sum: the exact sum of at most 1000 numbers, or 0 and false; its contract, whatever slice it is handed. -/
import Derived.Test.YtcecndjkfdaaaaaDoorRows
import Derived.Test.YtcecndjkfdaaaaaDoorArMath
import Derived.WalkKit
import Derived.WalkSpells
import Derived.WalkLawsBesides
import Derived.Lib.Hide
namespace Go.Proofs.YtcecndjkfdaaaaaDoor
open Go.RowKit
set_option linter.unusedVariables false

theorem ret_int {k : IntKind} {a b : Int} (h : a = b) : Ending.returned (.int k a) = .returned (.int k b) := by rw [h]
theorem ret_two {a b : Int} {x y : Bool} (h : a = b) (hx : x = y) : Ending.returned (.tuple #[.int .i64 a, .bool x]) = .returned (.tuple #[.int .i64 b, .bool y]) := by rw [h, hx]
/-- bits.Add64, without a carry coming in. -/
theorem add64_run (x y : Int) (hx : 0 ≤ x) (hy : 0 ≤ y) (w : World) :
    (callFunc 38 #[.int .u64 x, .int .u64 y, .int .u64 0]).run Tryd.prog w =
      .ok (.value (.tuple #[.int .u64 ((x + y) % 18446744073709551616), .int .u64 ((x + y) / 18446744073709551616)])) w := by
  rw [run_callFunc_extern Tryd.func38 (by kernel_rfl) (by kernel_rfl) (by kernel_rfl) (e := add64Entry) (by kernel_rfl), run_add64 x y 0 hx hy (by omega) (by omega), Int.add_zero]
  rfl

def hiOf (n : Int) : Int := n / 18446744073709551616
def loOf (n : Int) : Int := n % 18446744073709551616
def sgn (x : Int) : Int := if x < 0 then -1 else 0
def carryOf (t x : Int) : Int := (loOf t + loOf x) / 18446744073709551616
def tot (zs : List Int) : Int := zs.sum

theorem lo_step (t x : Int) : (loOf t + loOf x) % 18446744073709551616 = loOf (t + x) := by unfold loOf; omega
theorem hi_step (t x : Int) (hx : -9223372036854775808 ≤ x) (hx' : x ≤ 9223372036854775807) : hiOf t + (sgn x + carryOf t x) = hiOf (t + x) := by
  unfold hiOf sgn carryOf loOf; split <;> omega
theorem lo_bd (t : Int) : 0 ≤ loOf t ∧ loOf t ≤ 18446744073709551615 := by unfold loOf; omega
theorem carry_bd (t x : Int) : 0 ≤ carryOf t x ∧ carryOf t x ≤ 1 := by unfold carryOf loOf; omega
theorem sgn_bd (x : Int) : -1 ≤ sgn x ∧ sgn x ≤ 0 := by unfold sgn; split <;> omega
theorem hi_bd {t : Int} {k : Nat} (h : -(k : Int) * 9223372036854775808 ≤ t) (h' : t ≤ (k : Int) * 9223372036854775808) : -(k : Int) ≤ hiOf t ∧ hiOf t ≤ k := by
  unfold hiOf; omega
theorem tot_snoc (zs : List Int) (k : Nat) (h : k < zs.length) : tot (zs.take (k + 1)) = tot (zs.take k) + zs[k]?.getD 0 := by
  unfold tot; rw [List.take_succ_eq_append_getElem h, List.sum_append, List.sum_cons, List.sum_nil, Int.add_zero, List.getElem?_eq_getElem h, Option.getD_some]
theorem tot_bd (zs : List Int) (hz : ∀ z ∈ zs, -9223372036854775808 ≤ z ∧ z ≤ 9223372036854775807) :
    -(zs.length : Int) * 9223372036854775808 ≤ tot zs ∧ tot zs ≤ (zs.length : Int) * 9223372036854775808 := by
  induction zs with
  | nil => simp [tot]
  | cons z zs ih =>
    have h1 := hz z (by simp)
    have h2 := ih (fun y hy => hz y (by simp [hy]))
    unfold tot at *
    simp only [List.sum_cons, List.length_cons]; omega

/-- The sum is in the bounds just where its high word is the sign of its low one. -/
theorem fin_yes {t : Int} (h : (hiOf t != sgn (wrap64 (loOf t))) = false) : inR t = true ∧ wrap64 (loOf t) = t := by
  simp only [bne_eq_false_iff_eq] at h
  unfold hiOf sgn wrap64 loOf at h
  have : wrap64 (loOf t) = t ∧ -9223372036854775808 ≤ t ∧ t ≤ 9223372036854775807 := by unfold wrap64 loOf; split at h <;> omega
  exact ⟨inR_of this.2.1 this.2.2, this.1⟩
theorem fin_no {t : Int} (h : (hiOf t != sgn (wrap64 (loOf t))) = true) : inR t = false := by
  simp only [bne_iff_ne] at h
  apply inR_not
  apply Decidable.byContradiction
  intro hn
  apply h
  unfold hiOf sgn wrap64 loOf; split <;> omega

def sumVal (zs : List Int) : Int := if inR (tot zs) = true then tot zs else 0
def sumOk (zs : List Int) : Bool := inR (tot zs)

/-- A slice of int64s that reads as zs in the world w. -/
def Reads (w : World) (v : Value) (zs : List Int) : Prop :=
  (zs = [] ∧ ∃ a c, v = .slice a 0 c) ∨ ∃ b off cap, v = .slice (some ⟨b, off, none⟩) zs.length cap ∧ ∀ i, i < zs.length → w.cell? ⟨b, off + i, none⟩ = some (.int .i64 (zs[i]?.getD 0))

set_option maxHeartbeats 400000 in
theorem sw_calls (x : Int) (w : World) (hx : -9223372036854775808 ≤ x) (hx' : x ≤ 9223372036854775807) :
    Calls Tryd.prog 39 #[.int .i64 x] w fun e w' => e = .returned (.int .i64 (sgn x)) ∧ w = w' := by
  go_enter Tryd.func39, Tryd.ntmps39
  go_wp2
  go_ret
  exact ⟨ret_int (by unfold sgn; split <;> omega), rfl⟩

theorem add64_at (x y s c : Int) (hx : 0 ≤ x) (hy : 0 ≤ y) (hs : (x + y) % 18446744073709551616 = s) (hc : (x + y) / 18446744073709551616 = c) (w : World) :
    (callFunc 38 #[.int .u64 x, .int .u64 y, .int .u64 0]).run Tryd.prog w = .ok (.value (.tuple #[.int .u64 s, .int .u64 c])) w := by
  rw [add64_run x y hx hy, hs, hc]

theorem at_mem {zs : List Int} (hz : ∀ z ∈ zs, -9223372036854775808 ≤ z ∧ z ≤ 9223372036854775807) (k : Nat) : -9223372036854775808 ≤ zs[k]?.getD 0 ∧ zs[k]?.getD 0 ≤ 9223372036854775807 := by
  by_cases h : k < zs.length
  · rw [List.getElem?_eq_getElem h]; exact hz _ (List.getElem_mem h)
  · rw [List.getElem?_eq_none (by omega)]; decide


set_option maxHeartbeats 1000000 in
theorem sumlist_calls (v : Value) (zs : List Int) (w : World) (hR : Reads w v zs) (hlen : zs.length ≤ 1000) (hz : ∀ z ∈ zs, -9223372036854775808 ≤ z ∧ z ≤ 9223372036854775807) :
    Calls Tryd.prog 18 #[v] w fun e w' => e = .returned (.tuple #[.int .i64 (sumVal zs), .bool (sumOk zs)]) ∧ w = w' := by
  rcases hR with ⟨rfl, a, c, rfl⟩ | ⟨b, off, cap, rfl, hc⟩
  · clear hz hlen
    go_enter Tryd.func18, Tryd.ntmps18
    go_wp2_with (first | (go_at_call 39; refine (sw_calls _ _ (by decide) (by decide)).mono ?_; rintro e w' ⟨rfl, rfl⟩))
    go_loop [4, 5, 12] (fun h l i => h = .int .i64 0 ∧ l = .int .u64 0 ∧ i = .int .i64 0) (fun _ _ _ => 0)
    case atStart => exact ⟨rfl, rfl, rfl⟩
    case round =>
      obtain ⟨rfl, rfl, rfl⟩ := hrel
      have e0 : sgn 0 = 0 := by decide
      go_wp2_with (first | (go_at_call 39; refine (sw_calls _ _ (by decide) (by decide)).mono ?_; rintro e w' ⟨rfl, rfl⟩))
      go_ret2
      exact ⟨rfl, rfl⟩
  · go_enter Tryd.func18, Tryd.ntmps18
    go_wp2_with fail
    go_loop [4, 5, 12] (fun h l i => ∃ k : Nat, k ≤ zs.length ∧ i = .int .i64 k ∧ h = .int .i64 (hiOf (tot (zs.take k))) ∧ l = .int .u64 (loOf (tot (zs.take k)))) (fun _ _ i => zs.length - (intOf i).toNat)
    case atStart => exact ⟨0, Nat.zero_le _, rfl, rfl, rfl⟩
    case round =>
      obtain ⟨k, hk, rfl, rfl, rfl⟩ := hrel
      have tb := tot_bd (zs.take k) (fun z h => hz z (List.mem_of_mem_take h))
      rw [List.length_take_of_le hk] at tb
      obtain ⟨hb1, hb2⟩ := hi_bd tb.1 tb.2
      clear tb
      obtain ⟨lb1, lb2⟩ := lo_bd (tot (zs.take k))
      by_cases hlt : k < zs.length
      · have hcell := hc k hlt
        obtain ⟨xb1, xb2⟩ := at_mem hz k
        have S := Lib.hid (tot_snoc zs k hlt)
        generalize zs[k]?.getD 0 = x at *
        generalize ht : tot (zs.take k) = t at *
        have HT := Lib.hid ht
        clear ht hc hz
        obtain ⟨cb1, cb2⟩ := carry_bd t x
        obtain ⟨sb1, sb2⟩ := sgn_bd x
        obtain ⟨xl1, xl2⟩ := lo_bd x
        have hu : IntKind.u64.wrap x = loOf x := IntKind.wrap_u64 x
        have h64 := fun wx => add64_at (loOf t) (loOf x) (loOf (t + x)) (carryOf t x) lb1 xl1 (lo_step t x) rfl wx
        have HS := Lib.hid (hi_step t x xb1 xb2)
        go_wp2_with (first | (go_at_call 39; refine (sw_calls _ _ (by assumption) (by assumption)).mono ?_; rintro e w' ⟨rfl, rfl⟩))
        go_round
        case rel => exact ⟨k + 1, by omega, by go_num, by rw [S.out, HS.out], by rw [S.out]⟩
        case measure => simp [intOf]; omega
      · have e1 : zs.take k = zs := List.take_of_length_le (by omega)
        rw [e1] at *
        clear hc hz e1
        have w1 : -9223372036854775808 ≤ wrap64 (loOf (tot zs)) := by unfold wrap64; omega
        have w2 : wrap64 (loOf (tot zs)) ≤ 9223372036854775807 := by unfold wrap64; omega
        by_cases hf : (hiOf (tot zs) != sgn (wrap64 (loOf (tot zs)))) = true
        · go_wp2_with (first | (go_at_call 39; refine (sw_calls _ _ (by assumption) (by assumption)).mono ?_; rintro e w' ⟨rfl, rfl⟩))
          go_ret2
          have := fin_no hf
          exact ⟨ret_two (by simp [sumVal, this]) (by simp [sumOk, this]), rfl⟩
        · have hf' : (hiOf (tot zs) != sgn (wrap64 (loOf (tot zs)))) = false := by simpa using hf
          clear hf
          go_wp2_with (first | (go_at_call 39; refine (sw_calls _ _ (by assumption) (by assumption)).mono ?_; rintro e w' ⟨rfl, rfl⟩))
          go_ret2
          have := fin_yes hf'
          exact ⟨ret_two (by simp [sumVal, this.1, this.2]) (by simp [sumOk, this.1]), rfl⟩
end Go.Proofs.YtcecndjkfdaaaaaDoor
