/- LexErrors, walked. -/
import Derived.Test.YtecijhaclbbccaaDoorLxJ
namespace Go.Proofs.YtecijhaclbbccaaDoor
open Go.RowKit
set_option linter.unusedVariables false
set_option linter.unusedSimpArgs false

def repP : Nat → ByteArray
  | 0 => ⟨#[]⟩
  | i + 1 => repP i ++ ⟨#[112, 32]⟩
def lgS : Nat → ByteArray
  | 0 => ⟨#[97]⟩
  | i + 1 => lgS i ++ ⟨#[98]⟩
theorem repP_size (i : Nat) : (repP i).size = 2 * i := by
  induction i with
  | zero => rfl
  | succ i ih => rw [repP, ByteArray.size_append, ih]; show 2 * i + 2 = _; omega
theorem lgS_size (i : Nat) : (lgS i).size = i + 1 := by
  induction i with
  | zero => rfl
  | succ i ih => rw [lgS, ByteArray.size_append, ih]; rfl
/-- The sixteen texts, with the tag and the place of their faults. -/
def tests : List (ByteArray × Int × Nat) := [(⟨#[95, 120]⟩, 1, 0), (⟨#[120, 32, 59, 32, 121]⟩, 1, 2), (⟨#[34, 97, 98]⟩, 1, 3), (⟨#[34, 97, 92, 120, 34]⟩, 1, 2), (⟨#[34, 97, 9, 98, 34]⟩, 1, 2), (⟨#[34, 92]⟩, 1, 1), (⟨#[57, 50, 50, 51, 51, 55, 50, 48, 51, 54, 56, 53, 52, 55, 55, 53, 56, 48, 57]⟩, 1, 0), (⟨#[57, 57, 57, 57, 57, 57, 57, 57, 57, 57, 57, 57, 57, 57, 57, 57, 57, 57, 57, 57, 57, 57, 57]⟩, 1, 0), (lgS 40, 3, 0), (⟨#[34]⟩ ++ lgS 40 ++ ⟨#[34]⟩, 3, 0), (⟨#[120, 32, 33]⟩, 1, 2), (⟨#[120, 32, 58, 32, 121]⟩, 1, 2), (⟨#[195, 169]⟩, 1, 0), (⟨#[34, 97, 10, 98, 34]⟩, 1, 2), (⟨#[0]⟩, 1, 0), (⟨#[39, 97, 39]⟩, 1, 0)]
def tsAt (j : Nat) : ByteArray × Int × Nat := tests[j]?.getD (⟨#[]⟩, 0, 0)
def isNo (r : Rs) (tag : Int) (p : Nat) : Bool := match r with
  | .no a b => a == tag && b == p
  | _ => false
theorem tests_no : ((List.range 8).all fun m => (List.range 16).all fun j => isNo (allM (bs (repP m ++ (tsAt j).1))) (tsAt j).2.1 (2 * m + (tsAt j).2.2) && decide ((tsAt j).1.size ≤ 50) && decide ((tsAt j).2.2 ≤ 3)) = true := by decide +kernel
theorem tests_at {m j : Nat} (hm : m < 8) (hj : j < 16) : allM (bs (repP m ++ (tsAt j).1)) = .no (tsAt j).2.1 (2 * m + (tsAt j).2.2) ∧ (tsAt j).1.size ≤ 50 ∧ (tsAt j).2.2 ≤ 3 := by
  have h1 := List.all_eq_true.1 (List.all_eq_true.1 tests_no m (List.mem_range.2 hm)) j (List.mem_range.2 hj)
  rw [Bool.and_eq_true, Bool.and_eq_true] at h1
  refine ⟨?_, of_decide_eq_true h1.1.2, of_decide_eq_true h1.2⟩
  have h2 := h1.1.1
  unfold isNo at h2
  split at h2
  · rename_i a b he
    rw [he]
    rw [Bool.and_eq_true] at h2
    rw [beq_iff_eq] at h2
    have h3 := h2.2
    rw [beq_iff_eq] at h3
    rw [h2.1, h3]
  · cases h2
theorem and7 (x : Int) : ∃ m : Nat, m < 8 ∧ bits .and .i64 x 7 = (m : Int) := by
  refine ⟨((BitVec.ofInt 64 x).toNat &&& (BitVec.ofInt 64 7).toNat), ?_, ?_⟩
  · have h7 : (BitVec.ofInt 64 7).toNat = 2 ^ 3 - 1 := by decide
    rw [h7, Nat.and_two_pow_sub_one_eq_mod]; omega
  · show IntKind.i64.wrap ((BitVec.ofInt 64 x &&& BitVec.ofInt 64 7).toNat : Int) = _
    rw [BitVec.toNat_and]
    have h7 : (BitVec.ofInt 64 7).toNat = 2 ^ 3 - 1 := by decide
    rw [h7, Nat.and_two_pow_sub_one_eq_mod, IntKind.wrap_i64]
    omega
theorem rem16 (x : Int) : ∃ j : Nat, j < 16 ∧ wrap64 ((IntKind.u64.wrap x).tmod 16) = (j : Int) := by
  have h1 : 0 ≤ IntKind.u64.wrap x := by simp [IntKind.wrap, IntKind.bits, IntKind.signed]; omega
  have h2 : (IntKind.u64.wrap x).tmod 16 = IntKind.u64.wrap x % 16 := Int.tmod_eq_emod_of_nonneg h1
  rw [h2]
  obtain ⟨y, hy⟩ : ∃ y, IntKind.u64.wrap x % 16 = y := ⟨_, rfl⟩
  have h3 : 0 ≤ y ∧ y < 16 := by omega
  rw [hy]
  exact ⟨y.toNat, by omega, by unfold wrap64; omega⟩
set_option maxRecDepth 100000 in
theorem tab_cells (W : World) {j : Nat} (hj : j < 16) : (W.alloc (.cells #[.string ⟨#[95, 120]⟩, .int .i64 1, .int .i64 0, .string ⟨#[120, 32, 59, 32, 121]⟩, .int .i64 1, .int .i64 2, .string ⟨#[34, 97, 98]⟩, .int .i64 1, .int .i64 3, .string ⟨#[34, 97, 92, 120, 34]⟩, .int .i64 1, .int .i64 2, .string ⟨#[34, 97, 9, 98, 34]⟩, .int .i64 1, .int .i64 2, .string ⟨#[34, 92]⟩, .int .i64 1, .int .i64 1, .string ⟨#[57, 50, 50, 51, 51, 55, 50, 48, 51, 54, 56, 53, 52, 55, 55, 53, 56, 48, 57]⟩, .int .i64 1, .int .i64 0, .string ⟨#[57, 57, 57, 57, 57, 57, 57, 57, 57, 57, 57, 57, 57, 57, 57, 57, 57, 57, 57, 57, 57, 57, 57]⟩, .int .i64 1, .int .i64 0, .string (lgS 40), .int .i64 3, .int .i64 0, .string (⟨#[34]⟩ ++ lgS 40 ++ ⟨#[34]⟩), .int .i64 3, .int .i64 0, .string ⟨#[120, 32, 33]⟩, .int .i64 1, .int .i64 2, .string ⟨#[120, 32, 58, 32, 121]⟩, .int .i64 1, .int .i64 2, .string ⟨#[195, 169]⟩, .int .i64 1, .int .i64 0, .string ⟨#[34, 97, 10, 98, 34]⟩, .int .i64 1, .int .i64 2, .string ⟨#[0]⟩, .int .i64 1, .int .i64 0, .string ⟨#[39, 97, 39]⟩, .int .i64 1, .int .i64 0] 40)).cell? ⟨W.heap.size, j * 3, none⟩ = some (.string (tsAt j).1) ∧ (W.alloc (.cells #[.string ⟨#[95, 120]⟩, .int .i64 1, .int .i64 0, .string ⟨#[120, 32, 59, 32, 121]⟩, .int .i64 1, .int .i64 2, .string ⟨#[34, 97, 98]⟩, .int .i64 1, .int .i64 3, .string ⟨#[34, 97, 92, 120, 34]⟩, .int .i64 1, .int .i64 2, .string ⟨#[34, 97, 9, 98, 34]⟩, .int .i64 1, .int .i64 2, .string ⟨#[34, 92]⟩, .int .i64 1, .int .i64 1, .string ⟨#[57, 50, 50, 51, 51, 55, 50, 48, 51, 54, 56, 53, 52, 55, 55, 53, 56, 48, 57]⟩, .int .i64 1, .int .i64 0, .string ⟨#[57, 57, 57, 57, 57, 57, 57, 57, 57, 57, 57, 57, 57, 57, 57, 57, 57, 57, 57, 57, 57, 57, 57]⟩, .int .i64 1, .int .i64 0, .string (lgS 40), .int .i64 3, .int .i64 0, .string (⟨#[34]⟩ ++ lgS 40 ++ ⟨#[34]⟩), .int .i64 3, .int .i64 0, .string ⟨#[120, 32, 33]⟩, .int .i64 1, .int .i64 2, .string ⟨#[120, 32, 58, 32, 121]⟩, .int .i64 1, .int .i64 2, .string ⟨#[195, 169]⟩, .int .i64 1, .int .i64 0, .string ⟨#[34, 97, 10, 98, 34]⟩, .int .i64 1, .int .i64 2, .string ⟨#[0]⟩, .int .i64 1, .int .i64 0, .string ⟨#[39, 97, 39]⟩, .int .i64 1, .int .i64 0] 40)).cell? ⟨W.heap.size, j * 3 + 1, none⟩ = some (.int .i64 (tsAt j).2.1) ∧ (W.alloc (.cells #[.string ⟨#[95, 120]⟩, .int .i64 1, .int .i64 0, .string ⟨#[120, 32, 59, 32, 121]⟩, .int .i64 1, .int .i64 2, .string ⟨#[34, 97, 98]⟩, .int .i64 1, .int .i64 3, .string ⟨#[34, 97, 92, 120, 34]⟩, .int .i64 1, .int .i64 2, .string ⟨#[34, 97, 9, 98, 34]⟩, .int .i64 1, .int .i64 2, .string ⟨#[34, 92]⟩, .int .i64 1, .int .i64 1, .string ⟨#[57, 50, 50, 51, 51, 55, 50, 48, 51, 54, 56, 53, 52, 55, 55, 53, 56, 48, 57]⟩, .int .i64 1, .int .i64 0, .string ⟨#[57, 57, 57, 57, 57, 57, 57, 57, 57, 57, 57, 57, 57, 57, 57, 57, 57, 57, 57, 57, 57, 57, 57]⟩, .int .i64 1, .int .i64 0, .string (lgS 40), .int .i64 3, .int .i64 0, .string (⟨#[34]⟩ ++ lgS 40 ++ ⟨#[34]⟩), .int .i64 3, .int .i64 0, .string ⟨#[120, 32, 33]⟩, .int .i64 1, .int .i64 2, .string ⟨#[120, 32, 58, 32, 121]⟩, .int .i64 1, .int .i64 2, .string ⟨#[195, 169]⟩, .int .i64 1, .int .i64 0, .string ⟨#[34, 97, 10, 98, 34]⟩, .int .i64 1, .int .i64 2, .string ⟨#[0]⟩, .int .i64 1, .int .i64 0, .string ⟨#[39, 97, 39]⟩, .int .i64 1, .int .i64 0] 40)).cell? ⟨W.heap.size, j * 3 + 2, none⟩ = some (.int .i64 (tsAt j).2.2) := by
  have key : ∀ o, (W.alloc (.cells #[.string ⟨#[95, 120]⟩, .int .i64 1, .int .i64 0, .string ⟨#[120, 32, 59, 32, 121]⟩, .int .i64 1, .int .i64 2, .string ⟨#[34, 97, 98]⟩, .int .i64 1, .int .i64 3, .string ⟨#[34, 97, 92, 120, 34]⟩, .int .i64 1, .int .i64 2, .string ⟨#[34, 97, 9, 98, 34]⟩, .int .i64 1, .int .i64 2, .string ⟨#[34, 92]⟩, .int .i64 1, .int .i64 1, .string ⟨#[57, 50, 50, 51, 51, 55, 50, 48, 51, 54, 56, 53, 52, 55, 55, 53, 56, 48, 57]⟩, .int .i64 1, .int .i64 0, .string ⟨#[57, 57, 57, 57, 57, 57, 57, 57, 57, 57, 57, 57, 57, 57, 57, 57, 57, 57, 57, 57, 57, 57, 57]⟩, .int .i64 1, .int .i64 0, .string (lgS 40), .int .i64 3, .int .i64 0, .string (⟨#[34]⟩ ++ lgS 40 ++ ⟨#[34]⟩), .int .i64 3, .int .i64 0, .string ⟨#[120, 32, 33]⟩, .int .i64 1, .int .i64 2, .string ⟨#[120, 32, 58, 32, 121]⟩, .int .i64 1, .int .i64 2, .string ⟨#[195, 169]⟩, .int .i64 1, .int .i64 0, .string ⟨#[34, 97, 10, 98, 34]⟩, .int .i64 1, .int .i64 2, .string ⟨#[0]⟩, .int .i64 1, .int .i64 0, .string ⟨#[39, 97, 39]⟩, .int .i64 1, .int .i64 0] 40)).cell? ⟨W.heap.size, o, none⟩ = (#[.string ⟨#[95, 120]⟩, .int .i64 1, .int .i64 0, .string ⟨#[120, 32, 59, 32, 121]⟩, .int .i64 1, .int .i64 2, .string ⟨#[34, 97, 98]⟩, .int .i64 1, .int .i64 3, .string ⟨#[34, 97, 92, 120, 34]⟩, .int .i64 1, .int .i64 2, .string ⟨#[34, 97, 9, 98, 34]⟩, .int .i64 1, .int .i64 2, .string ⟨#[34, 92]⟩, .int .i64 1, .int .i64 1, .string ⟨#[57, 50, 50, 51, 51, 55, 50, 48, 51, 54, 56, 53, 52, 55, 55, 53, 56, 48, 57]⟩, .int .i64 1, .int .i64 0, .string ⟨#[57, 57, 57, 57, 57, 57, 57, 57, 57, 57, 57, 57, 57, 57, 57, 57, 57, 57, 57, 57, 57, 57, 57]⟩, .int .i64 1, .int .i64 0, .string (lgS 40), .int .i64 3, .int .i64 0, .string (⟨#[34]⟩ ++ lgS 40 ++ ⟨#[34]⟩), .int .i64 3, .int .i64 0, .string ⟨#[120, 32, 33]⟩, .int .i64 1, .int .i64 2, .string ⟨#[120, 32, 58, 32, 121]⟩, .int .i64 1, .int .i64 2, .string ⟨#[195, 169]⟩, .int .i64 1, .int .i64 0, .string ⟨#[34, 97, 10, 98, 34]⟩, .int .i64 1, .int .i64 2, .string ⟨#[0]⟩, .int .i64 1, .int .i64 0, .string ⟨#[39, 97, 39]⟩, .int .i64 1, .int .i64 0] : Array Value)[o]? := fun o => World.cell?_alloc_at _ _ _ _ rfl
  rw [key, key, key]
  have h : j = 0 ∨ j = 1 ∨ j = 2 ∨ j = 3 ∨ j = 4 ∨ j = 5 ∨ j = 6 ∨ j = 7 ∨ j = 8 ∨ j = 9 ∨ j = 10 ∨ j = 11 ∨ j = 12 ∨ j = 13 ∨ j = 14 ∨ j = 15 := by omega
  rcases h with rfl | rfl | rfl | rfl | rfl | rfl | rfl | rfl | rfl | rfl | rfl | rfl | rfl | rfl | rfl | rfl <;> exact ⟨rfl, rfl, rfl⟩
theorem heldE {bt E : Nat} {tg ax : Int} {w2 w' w'' : World} (hlt : bt < E) (h : w'.cell? ⟨bt, 1, none⟩ = some (.int .i64 tg) ∧ w'.cell? ⟨bt, 2, none⟩ = some (.int .i64 ax) ∧ Below E w2 w' ∧ E ≤ w'.heap.size) (hb : Below w'.heap.size w' w'') : w''.cell? ⟨bt, 1, none⟩ = some (.int .i64 tg) ∧ w''.cell? ⟨bt, 2, none⟩ = some (.int .i64 ax) ∧ Below E w2 w'' ∧ E ≤ w''.heap.size :=
  ⟨(hb.cell (p := ⟨bt, 1, none⟩) (Nat.lt_of_lt_of_le hlt h.2.2.2)).trans h.1, (hb.cell (p := ⟨bt, 2, none⟩) (Nat.lt_of_lt_of_le hlt h.2.2.2)).trans h.2.1, h.2.2.1.trans (hb.mono h.2.2.2), Nat.le_trans h.2.2.2 hb.size⟩
set_option maxRecDepth 100000 in
set_option maxHeartbeats 2000000 in
theorem lexErrors_walk (which ahead : Int) (w : World) (ht : SignTab w) (hg : ErrType w) (b1 : -9223372036854775808 ≤ which ∧ which ≤ 9223372036854775807) (b2 : -9223372036854775808 ≤ ahead ∧ ahead ≤ 9223372036854775807) : Calls Tryd.prog 4 #[.int .i64 which, .int .i64 ahead] w (TrueRet w) := by
  have ch := head12_calls w ht
  have HT := Lib.hid ht
  have HE := Lib.hid hg
  clear ht hg
  obtain ⟨B, hB⟩ : ∃ B, w.heap.size = B := ⟨_, rfl⟩
  have HB := Lib.hid hB
  obtain ⟨m, hm, hm7⟩ := and7 ahead
  obtain ⟨j, hj, hj16⟩ := rem16 which
  clear hB
  go_enter Tryd.func4, Tryd.ntmps4
  go_wp2_with fail
  refine ch.mono ?_
  rintro e w1 ⟨rfl, hb1⟩
  rw [HB.out] at hb1
  have B1 := Lib.hid hb1
  have s1 : B ≤ w1.heap.size := by have := hb1.size; rw [HB.out] at this; exact this
  clear hb1 ch
  go_wp2_with fail
  go_loop [5, 6] (fun a i => ∃ k : Nat, k ≤ m ∧ i = .int .i64 k ∧ a = .string (repP k)) (fun _ i => m - (intOf i).toNat)
  case atStart => exact ⟨0, Nat.zero_le _, rfl, rfl⟩
  case round =>
    obtain ⟨k, hk, rfl, rfl⟩ := hrel
    have hsz := repP_size k
    have HS := Lib.hid (show repP (k + 1) = repP k ++ ⟨#[112, 32]⟩ from rfl)
    by_cases hlt : k < m
    · have tk : decide ((k : Int) < (m : Int)) = true := decide_eq_true (by omega)
      have hz : (repP k).size ≤ 100 := by omega
      generalize repP k = rp at *
      clear hsz
      go_wp2_with fail
      go_round
      case rel => exact ⟨k + 1, by omega, by go_num, by rw [HS.out]⟩
      case measure => simp [intOf]; omega
    · obtain rfl : k = m := by omega
      have tk : decide ((k : Int) < (k : Int)) = false := decide_eq_false (by omega)
      obtain ⟨T1, T2, T3⟩ := tests_at hm hj
      have HT1 := Lib.hid T1
      clear HS T1
      have hzr : (repP k).size ≤ 100 := by omega
      have HSZ := Lib.hid hsz
      generalize hrp : repP k = rp at *
      clear hsz hrp
      go_wp2_with fail
      go_loop [7, 8] (fun a i => ∃ n : Nat, n ≤ 40 ∧ i = .int .i64 n ∧ a = .string (lgS n)) (fun _ i => 40 - (intOf i).toNat)
      case atStart => exact ⟨0, by omega, rfl, rfl⟩
      case round =>
        obtain ⟨n, hn, rfl, rfl⟩ := hrel
        have hlz := lgS_size n
        have HS := Lib.hid (show lgS (n + 1) = lgS n ++ ⟨#[98]⟩ from rfl)
        by_cases hlt2 : n < 40
        · have hz : (lgS n).size ≤ 100 := by omega
          generalize lgS n = lg at *
          clear hlz
          go_wp2_with fail
          go_round
          case rel => exact ⟨n + 1, by omega, by go_num, by rw [HS.out]⟩
          case measure => simp [intOf]; omega
        · obtain rfl : n = 40 := by omega
          have hz : (lgS 40).size ≤ 100 := by omega
          have hz2 : ((⟨#[34]⟩ : ByteArray) ++ lgS 40).size ≤ 200 := by rw [ByteArray.size_append, lgS_size]; decide
          obtain ⟨x0, x1, x2⟩ := tab_cells w1 hj
          have BT : Hid (Below B w (w1.alloc (.cells #[.string ⟨#[95, 120]⟩, .int .i64 1, .int .i64 0, .string ⟨#[120, 32, 59, 32, 121]⟩, .int .i64 1, .int .i64 2, .string ⟨#[34, 97, 98]⟩, .int .i64 1, .int .i64 3, .string ⟨#[34, 97, 92, 120, 34]⟩, .int .i64 1, .int .i64 2, .string ⟨#[34, 97, 9, 98, 34]⟩, .int .i64 1, .int .i64 2, .string ⟨#[34, 92]⟩, .int .i64 1, .int .i64 1, .string ⟨#[57, 50, 50, 51, 51, 55, 50, 48, 51, 54, 56, 53, 52, 55, 55, 53, 56, 48, 57]⟩, .int .i64 1, .int .i64 0, .string ⟨#[57, 57, 57, 57, 57, 57, 57, 57, 57, 57, 57, 57, 57, 57, 57, 57, 57, 57, 57, 57, 57, 57, 57]⟩, .int .i64 1, .int .i64 0, .string (lgS 40), .int .i64 3, .int .i64 0, .string (⟨#[34]⟩ ++ lgS 40 ++ ⟨#[34]⟩), .int .i64 3, .int .i64 0, .string ⟨#[120, 32, 33]⟩, .int .i64 1, .int .i64 2, .string ⟨#[120, 32, 58, 32, 121]⟩, .int .i64 1, .int .i64 2, .string ⟨#[195, 169]⟩, .int .i64 1, .int .i64 0, .string ⟨#[34, 97, 10, 98, 34]⟩, .int .i64 1, .int .i64 2, .string ⟨#[0]⟩, .int .i64 1, .int .i64 0, .string ⟨#[39, 97, 39]⟩, .int .i64 1, .int .i64 0] 40))) := Lib.hid (B1.out.alloc s1 _)
          have ST : Hid (B ≤ (w1.alloc (.cells #[.string ⟨#[95, 120]⟩, .int .i64 1, .int .i64 0, .string ⟨#[120, 32, 59, 32, 121]⟩, .int .i64 1, .int .i64 2, .string ⟨#[34, 97, 98]⟩, .int .i64 1, .int .i64 3, .string ⟨#[34, 97, 92, 120, 34]⟩, .int .i64 1, .int .i64 2, .string ⟨#[34, 97, 9, 98, 34]⟩, .int .i64 1, .int .i64 2, .string ⟨#[34, 92]⟩, .int .i64 1, .int .i64 1, .string ⟨#[57, 50, 50, 51, 51, 55, 50, 48, 51, 54, 56, 53, 52, 55, 55, 53, 56, 48, 57]⟩, .int .i64 1, .int .i64 0, .string ⟨#[57, 57, 57, 57, 57, 57, 57, 57, 57, 57, 57, 57, 57, 57, 57, 57, 57, 57, 57, 57, 57, 57, 57]⟩, .int .i64 1, .int .i64 0, .string (lgS 40), .int .i64 3, .int .i64 0, .string (⟨#[34]⟩ ++ lgS 40 ++ ⟨#[34]⟩), .int .i64 3, .int .i64 0, .string ⟨#[120, 32, 33]⟩, .int .i64 1, .int .i64 2, .string ⟨#[120, 32, 58, 32, 121]⟩, .int .i64 1, .int .i64 2, .string ⟨#[195, 169]⟩, .int .i64 1, .int .i64 0, .string ⟨#[34, 97, 10, 98, 34]⟩, .int .i64 1, .int .i64 2, .string ⟨#[0]⟩, .int .i64 1, .int .i64 0, .string ⟨#[39, 97, 39]⟩, .int .i64 1, .int .i64 0] 40)).heap.size) := Lib.hid (by simp; omega)
          have SQ : Hid ((w1.alloc (.cells #[.string ⟨#[95, 120]⟩, .int .i64 1, .int .i64 0, .string ⟨#[120, 32, 59, 32, 121]⟩, .int .i64 1, .int .i64 2, .string ⟨#[34, 97, 98]⟩, .int .i64 1, .int .i64 3, .string ⟨#[34, 97, 92, 120, 34]⟩, .int .i64 1, .int .i64 2, .string ⟨#[34, 97, 9, 98, 34]⟩, .int .i64 1, .int .i64 2, .string ⟨#[34, 92]⟩, .int .i64 1, .int .i64 1, .string ⟨#[57, 50, 50, 51, 51, 55, 50, 48, 51, 54, 56, 53, 52, 55, 55, 53, 56, 48, 57]⟩, .int .i64 1, .int .i64 0, .string ⟨#[57, 57, 57, 57, 57, 57, 57, 57, 57, 57, 57, 57, 57, 57, 57, 57, 57, 57, 57, 57, 57, 57, 57]⟩, .int .i64 1, .int .i64 0, .string (lgS 40), .int .i64 3, .int .i64 0, .string (⟨#[34]⟩ ++ lgS 40 ++ ⟨#[34]⟩), .int .i64 3, .int .i64 0, .string ⟨#[120, 32, 33]⟩, .int .i64 1, .int .i64 2, .string ⟨#[120, 32, 58, 32, 121]⟩, .int .i64 1, .int .i64 2, .string ⟨#[195, 169]⟩, .int .i64 1, .int .i64 0, .string ⟨#[34, 97, 10, 98, 34]⟩, .int .i64 1, .int .i64 2, .string ⟨#[0]⟩, .int .i64 1, .int .i64 0, .string ⟨#[39, 97, 39]⟩, .int .i64 1, .int .i64 0] 40)).heap.size = w1.heap.size + 1) := Lib.hid (by simp)
          have hjj : (j : Int) < 16 := by omega
          have hj0 : (0 : Int) ≤ (j : Int) := by omega
          clear HS hlz
          generalize (tsAt j).1 = sx at *
          generalize (tsAt j).2.1 = tg at *
          generalize (tsAt j).2.2 = ax at *
          go_wp2_with fail
          clear x0 x1 x2
          generalize World.alloc w1 _ = W1 at *
          have e0 : (W1.alloc (.cells #[.string sx, .int .i64 tg, .int .i64 (ax : Int)] 40)).cell? ⟨W1.heap.size, 0, none⟩ = some (.string sx) := by simp
          have e1 : (W1.alloc (.cells #[.string sx, .int .i64 tg, .int .i64 (ax : Int)] 40)).cell? ⟨W1.heap.size, 1, none⟩ = some (.int .i64 tg) := by simp
          have e2 : (W1.alloc (.cells #[.string sx, .int .i64 tg, .int .i64 (ax : Int)] 40)).cell? ⟨W1.heap.size, 2, none⟩ = some (.int .i64 (ax : Int)) := by simp
          have BW : Hid (Below B w (W1.alloc (.cells #[.string sx, .int .i64 tg, .int .i64 (ax : Int)] 40))) := Lib.hid (BT.out.alloc ST.out _)
          have SW : W1.heap.size < (W1.alloc (.cells #[.string sx, .int .i64 tg, .int .i64 (ax : Int)] 40)).heap.size := by simp
          rw [SQ.out] at e0 e1 e2 SW
          have HTW := Lib.hid (HT.out.below (by rw [HB.out]; exact BW.out))
          have HEW : Hid (ErrType (W1.alloc (.cells #[.string sx, .int .i64 tg, .int .i64 (ax : Int)] 40))) := Lib.hid (HE.out.ext (by show Below _ _ _; rw [HB.out]; exact BW.out))
          have hBW : B ≤ (W1.alloc (.cells #[.string sx, .int .i64 tg, .int .i64 (ax : Int)] 40)).heap.size := by have := BW.out.size; rw [HB.out] at this; exact this
          clear BT ST SQ
          generalize World.alloc W1 _ = W at *
          generalize w1.heap.size + 1 = bt at *
          have ca := all_calls (rp ++ sx) W (by rw [ByteArray.size_append]; omega) HTW.out
          rw [HT1.out] at ca
          refine ca.mono ?_
          rintro e w2 ⟨hb2, b9, txt9, rfl, hle9, hf9⟩
          have k1 : w2.cell? ⟨bt, 1, none⟩ = some (.int .i64 tg) := (hb2.cell (p := ⟨bt, 1, none⟩) SW).trans e1
          have k2 : w2.cell? ⟨bt, 2, none⟩ = some (.int .i64 (ax : Int)) := (hb2.cell (p := ⟨bt, 2, none⟩) SW).trans e2
          have B2 : Hid (Below B w w2) := Lib.hid (BW.out.trans (hb2.mono hBW))
          have HE2 : Hid (ErrType w2) := Lib.hid (HEW.out.ext hb2)
          have s2 : bt < w2.heap.size := Nat.lt_of_lt_of_le SW hb2.size
          have hB2 : B ≤ w2.heap.size := Nat.le_trans hBW hb2.size
          obtain ⟨E, hE⟩ : ∃ E, w2.heap.size = E := ⟨_, rfl⟩
          rw [hE] at s2 hB2
          have CO : Hid (∀ w', Below E w2 w' → Calls Tryd.prog 12 #[.iface 70 (.pointer (some ⟨b9, 0, none⟩))] w' (fun e w'' => e = .returned (.int .i64 tg) ∧ Below w'.heap.size w' w'')) := Lib.hid (fun w' h => by
            rw [← hE] at h
            exact of_fault b9 tg ((2 * k + ax : Nat) : Int) txt9 .nilIface w' (hf9.below hf9.lt h) (.inl rfl) (HE2.out.ext h))
          have CA : Hid (∀ w', Below E w2 w' → Calls Tryd.prog 13 #[.iface 70 (.pointer (some ⟨b9, 0, none⟩))] w' (fun e w'' => e = .returned (.int .i64 ((2 * k + ax : Nat) : Int)) ∧ Below w'.heap.size w' w'')) := Lib.hid (fun w' h => by
            rw [← hE] at h
            exact at_fault b9 tg ((2 * k + ax : Nat) : Int) txt9 .nilIface w' (hf9.below hf9.lt h) (.inl rfl) (HE2.out.ext h))
          have te : (((2 * k + ax : Nat) : Int) == (rp.size : Int) + (ax : Int)) = true := by rw [beq_iff_eq, HSZ.out]; omega
          have hax : (ax : Int) ≤ 3 := by omega
          have hrs : (rp.size : Int) ≤ 100 := by omega
          obtain ⟨ap, hap⟩ : ∃ ap : Int, ((2 * k + ax : Nat) : Int) = ap := ⟨_, rfl⟩
          rw [hap] at te CA
          have sE : E ≤ w2.heap.size := by omega
          have q0 : Below E w2 w2 := Below.refl _ _
          clear ca hb2 hle9 hf9 e0 e1 e2 SW HEW HTW hap hE
          go_wp2_with fail
          go_region_held3 (fun w' => w'.cell? ⟨bt, 1, none⟩ = some (.int .i64 tg) ∧ w'.cell? ⟨bt, 2, none⟩ = some (.int .i64 (ax : Int)) ∧ Below E w2 w' ∧ E ≤ w'.heap.size)
            (first | (exact ⟨k1, k2, q0.drew, sE⟩) | (exact heldE s2 ‹_ ∧ _ ∧ _ ∧ _› ‹Below _ _ _›))
            (first
              | (go_at_call 12; (with_reducible refine (CO.out _ (And.left (And.right (And.right ‹_ ∧ _ ∧ Below E w2 _ ∧ _›)))).mono ?_); rintro e w4 ⟨rfl, hb4⟩)
              | (go_at_call 13; (with_reducible refine (CA.out _ (And.left (And.right (And.right ‹_ ∧ _ ∧ Below E w2 _ ∧ _›)))).mono ?_); rintro e w5 ⟨rfl, hb5⟩))
          go_wp2_with fail
          go_ret
          refine ⟨(?_ : Ending.returned (.bool _) = .returned (.bool true)), by rw [HB.out]; exact B2.out.trans (((q0.drew.trans (hb4.mono sE)).trans (hb5.mono (Nat.le_trans sE hb4.size))).mono hB2)⟩
          exact ret_b (by rw [show IntKind.i64.wrap ((rp.size : Int) + (ax : Int)) = (rp.size : Int) + (ax : Int) by rw [IntKind.wrap_i64]; omega]; exact te)
end Go.Proofs.YtecijhaclbbccaaDoor
