/- Plain mathematics for ArithTotals: halves of 32 bits, and sums of a list that is turned round. -/
import Derived.Test.YtfcjiiogigfjkaaDoorArSum
import Derived.Laws.Bits64b
namespace Go.Proofs.YtfcjiiogigfjkaaDoor
open Go.RowKit
set_option linter.unusedVariables false

theorem ofInt_toNat (x : Int) : (BitVec.ofInt 64 x).toNat = (x % 18446744073709551616).toNat := by
  rw [BitVec.toNat_ofInt]; rfl
theorem mask32 (x : Int) : bits .and .i64 x 4294967295 = x % 4294967296 := by
  show IntKind.i64.wrap ((BitVec.ofInt 64 x &&& BitVec.ofInt 64 4294967295).toNat : Int) = _
  rw [BitVec.toNat_and, ofInt_toNat, show (BitVec.ofInt 64 4294967295).toNat = 2 ^ 32 - 1 by decide, Nat.and_two_pow_sub_one_eq_mod, IntKind.wrap_i64]
  omega
theorem mask16 (x : Int) : bits .and .i64 x 65535 = x % 65536 := by
  show IntKind.i64.wrap ((BitVec.ofInt 64 x &&& BitVec.ofInt 64 65535).toNat : Int) = _
  rw [BitVec.toNat_and, ofInt_toNat, show (BitVec.ofInt 64 65535).toNat = 2 ^ 16 - 1 by decide, Nat.and_two_pow_sub_one_eq_mod, IntKind.wrap_i64]
  omega
theorem or_halves (h l : Int) (hh : -2147483648 ≤ h) (hh' : h < 2147483648) (hl : 0 ≤ l) (hl' : l < 4294967296) : bits .or .i64 (h * 4294967296) l = h * 4294967296 + l := by
  show IntKind.i64.wrap ((BitVec.ofInt 64 (h * 4294967296) ||| BitVec.ofInt 64 l).toNat : Int) = _
  have e1 : (h * 4294967296 % 18446744073709551616).toNat = (h % 4294967296).toNat <<< 32 := by rw [Nat.shiftLeft_eq]; omega
  have e2 : (l % 18446744073709551616).toNat = l.toNat := by omega
  rw [BitVec.toNat_or, ofInt_toNat, ofInt_toNat, e1, e2, ← Nat.shiftLeft_add_eq_or_of_lt (by omega : l.toNat < 2 ^ 32), Nat.shiftLeft_eq, IntKind.wrap_i64]
  omega

def hi32 (zs : List Int) : Int := (zs.map fun x => x / 4294967296).sum
def lo32 (zs : List Int) : Int := (zs.map fun x => x % 4294967296).sum
theorem hi32_snoc (zs : List Int) (k : Nat) (h : k < zs.length) : hi32 (zs.take (k + 1)) = hi32 (zs.take k) + zs[k]?.getD 0 / 4294967296 := by
  unfold hi32; rw [List.take_succ_eq_append_getElem h, List.map_append, List.sum_append, List.getElem?_eq_getElem h]; simp
theorem lo32_snoc (zs : List Int) (k : Nat) (h : k < zs.length) : lo32 (zs.take (k + 1)) = lo32 (zs.take k) + zs[k]?.getD 0 % 4294967296 := by
  unfold lo32; rw [List.take_succ_eq_append_getElem h, List.map_append, List.sum_append, List.getElem?_eq_getElem h]; simp
theorem halves (zs : List Int) : hi32 zs * 4294967296 + lo32 zs = tot zs := by
  induction zs with
  | nil => rfl
  | cons z zs ih => simp only [hi32, lo32, tot, List.map_cons, List.sum_cons] at *; omega
theorem hi32_bd (zs : List Int) (hz : ∀ z ∈ zs, -9223372036854775808 ≤ z ∧ z ≤ 9223372036854775807) : -(zs.length : Int) * 2147483648 ≤ hi32 zs ∧ hi32 zs ≤ (zs.length : Int) * 2147483648 := by
  induction zs with
  | nil => simp [hi32]
  | cons z zs ih =>
    have h1 := hz z (by simp)
    have h2 := ih (fun y hy => hz y (by simp [hy]))
    simp only [hi32, List.map_cons, List.sum_cons, List.length_cons] at *; omega
theorem lo32_bd (zs : List Int) : 0 ≤ lo32 zs ∧ lo32 zs ≤ (zs.length : Int) * 4294967296 := by
  induction zs with
  | nil => simp [lo32]
  | cons z zs ih => simp only [lo32, List.map_cons, List.sum_cons, List.length_cons] at *; omega

/-- The sum of n values of g, from m on. -/
def gs (g : Nat → Int) (m : Nat) : Nat → Int
  | 0 => 0
  | n + 1 => gs g m n + g (m + n)
theorem gs_shift (g : Nat → Int) (m n : Nat) : gs g (m + 1) n + g m = gs g m n + g (m + n) := by
  induction n with
  | zero => simp [gs]
  | succ n ih =>
    have e : g (m + 1 + n) = g (m + (n + 1)) := by congr 1; omega
    simp only [gs, e]; omega
theorem gs_turn (g : Nat → Int) (n : Nat) (hg : ∀ j, g (j + n) = g j) (m : Nat) : gs g m n = gs g 0 n := by
  induction m with
  | zero => rfl
  | succ m ih => have h := gs_shift g m n; have := hg m; omega
/-- The list turned by m, as far as k. -/
def turned (zs : List Int) (m k : Nat) : List Int := (List.range k).map fun i => zs[(i + m) % zs.length]?.getD 0
theorem turned_succ (zs : List Int) (m k : Nat) : turned zs m (k + 1) = turned zs m k ++ [zs[(k + m) % zs.length]?.getD 0] := by
  unfold turned; rw [List.range_succ, List.map_append]; rfl
theorem turned_length (zs : List Int) (m k : Nat) : (turned zs m k).length = k := by simp [turned]
theorem tot_turned (zs : List Int) (m k : Nat) : tot (turned zs m k) = gs (fun j => zs[j % zs.length]?.getD 0) m k := by
  induction k with
  | zero => rfl
  | succ k ih =>
    rw [turned_succ]
    unfold tot at *
    rw [List.sum_append, ih, gs, Nat.add_comm m k]
    simp
theorem gs_take (zs : List Int) (k : Nat) (hk : k ≤ zs.length) : gs (fun j => zs[j % zs.length]?.getD 0) 0 k = tot (zs.take k) := by
  induction k with
  | zero => rfl
  | succ k ih => rw [gs, ih (by omega), tot_snoc zs k (by omega), Nat.zero_add, Nat.mod_eq_of_lt (by omega)]
theorem tot_turn (zs : List Int) (m : Nat) : tot (turned zs m zs.length) = tot zs := by
  rw [tot_turned, gs_turn _ _ (fun j => by simp), gs_take _ _ (Nat.le_refl _), List.take_length]

/-- What the statement reckons by halves is the sum, and within the bounds just where the sum is. -/
theorem by_halves (zs : List Int) (h l : Int) (hh : h = hi32 zs + lo32 zs / 4294967296) (hl : l = lo32 zs % 4294967296) :
    (sumOk zs = (decide (-2147483648 ≤ h) && decide (h < 2147483648))) ∧ h * 4294967296 + l = tot zs := by
  have e := halves zs
  have e2 : h * 4294967296 + l = tot zs := by omega
  refine ⟨?_, e2⟩
  have hl0 : 0 ≤ l := by omega
  have hl1 : l < 4294967296 := by omega
  unfold sumOk inR
  rw [← e2, ← Bool.decide_and]
  congr 1
  rw [eq_iff_iff]; omega
end Go.Proofs.YtfcjiiogigfjkaaDoor
