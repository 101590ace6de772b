/- Contracts of the lexer: quoted. Written by lxt.py. -/
import Derived.Test.YtecijhaclbbccaaDoorLxC
namespace Go.Proofs.YtecijhaclbbccaaDoor
open Go.RowKit
set_option linter.unusedVariables false
set_option linter.unusedSimpArgs false

/-- What a byte behind a backslash stands for. -/
def escM (c : Nat) : Option Nat := if c = 110 then some 10 else if c = 34 ∨ c = 92 then some c else none
set_option maxRecDepth 100000 in
theorem escaped_calls (s : ByteArray) (p : Nat) (w : World) (hp : p < s.size) (hs : s.size ≤ 1000000) :
    Calls Tryd.prog 45 #[.string s, .int .i64 p] w fun e w' => e = .returned (.tuple #[.int .u8 ((escM (s[p]).toNat).getD 0 : Nat), .bool (escM (s[p]).toNat).isSome]) ∧ w = w' := by
  have t0 : ((p : Int) == (s.size : Int)) = false := beq_eq_false_iff_ne.2 (by omega)
  by_cases h1 : (s[p]).toNat = 110
  · have E : Hid (escM (s[p]).toNat = some 10) := Lib.hid (by simp [escM, h1])
    have t1 : (((s[p]).toNat : Int) == 110) = true := by simp [h1]
    clear h1
    go_enter Tryd.func45, Tryd.ntmps45
    go_wp2_with fail
    go_ret2
    exact ⟨by rw [E.out]; rfl, rfl⟩
  have t1 : (((s[p]).toNat : Int) == 110) = false := beq_eq_false_iff_ne.2 (by omega)
  by_cases h2 : (s[p]).toNat = 34
  · have E : Hid (escM (s[p]).toNat = some (s[p]).toNat) := Lib.hid (by simp [escM, h1, h2])
    have t2 : (((s[p]).toNat : Int) == 34) = true := by simp [h2]
    clear h1 h2
    go_enter Tryd.func45, Tryd.ntmps45
    go_wp2_with fail
    go_ret2
    exact ⟨by rw [E.out]; rfl, rfl⟩
  have t2 : (((s[p]).toNat : Int) == 34) = false := beq_eq_false_iff_ne.2 (by omega)
  by_cases h3 : (s[p]).toNat = 92
  · have E : Hid (escM (s[p]).toNat = some (s[p]).toNat) := Lib.hid (by simp [escM, h1, h3])
    have t3 : (((s[p]).toNat : Int) == 92) = true := by simp [h3]
    clear h1 h2 h3
    go_enter Tryd.func45, Tryd.ntmps45
    go_wp2_with fail
    go_ret2
    exact ⟨by rw [E.out]; rfl, rfl⟩
  have t3 : (((s[p]).toNat : Int) == 92) = false := beq_eq_false_iff_ne.2 (by omega)
  have E : Hid (escM (s[p]).toNat = none) := Lib.hid (by simp [escM, h1, h2, h3])
  clear h1 h2 h3
  go_enter Tryd.func45, Tryd.ntmps45
  go_wp2_with fail
  go_ret2
  exact ⟨by rw [E.out]; rfl, rfl⟩
set_option maxRecDepth 100000 in
theorem escaped_end (s : ByteArray) (w : World) (hs : s.size ≤ 1000000) :
    Calls Tryd.prog 45 #[.string s, .int .i64 (s.size : Nat)] w fun e w' => e = .returned (.tuple #[.int .u8 0, .bool false]) ∧ w = w' := by
  go_enter Tryd.func45, Tryd.ntmps45
  go_wp2_with fail
  go_ret2
  exact ⟨rfl, rfl⟩
/-- The steps of strGo. -/
theorem str_end (p i : Nat) (acc : Bytes) : strGo p [] i acc = .no 1 i := by unfold strGo; rfl
theorem str_quote {p i : Nat} {b : UInt8} {r acc : Bytes} (h : b.toNat = 34) : strGo p (b :: r) i acc = if 40 < acc.length then .no 3 p else .ok ⟨4, ⟨acc.toArray⟩, 0, p⟩ (i + 1) := by rw [strGo.eq_def]; simp only; rw [if_pos h]
theorem str_low {p i : Nat} {b : UInt8} {r acc : Bytes} (h : b.toNat < 32) : strGo p (b :: r) i acc = .no 1 i := by rw [strGo.eq_def]; simp only; rw [if_neg (by omega), if_pos h]
theorem str_plain {p i : Nat} {b : UInt8} {r acc : Bytes} (h1 : ¬ b.toNat = 34) (h2 : ¬ b.toNat < 32) (h3 : ¬ b.toNat = 92) : strGo p (b :: r) i acc = strGo p r (i + 1) (acc ++ [b]) := by rw [strGo.eq_def]; simp only; rw [if_neg h1, if_neg h2, if_neg h3]
theorem str_last {p i : Nat} {b : UInt8} {acc : Bytes} (h : b.toNat = 92) : strGo p [b] i acc = .no 1 i := by rw [strGo.eq_def]; simp only; rw [if_neg (by omega), if_neg (by omega), if_pos h]
theorem str_esc {p i : Nat} {b c : UInt8} {r acc : Bytes} (h : b.toNat = 92) {v : Nat} (hv : escM c.toNat = some v) : strGo p (b :: c :: r) i acc = strGo p r (i + 2) (acc ++ [UInt8.ofNat v]) := by
  rw [strGo.eq_def]; simp only
  rw [if_neg (by omega), if_neg (by omega), if_pos h]
  unfold escM at hv
  by_cases h1 : c.toNat = 110
  · rw [if_pos h1] at hv ⊢; cases hv; rfl
  · rw [if_neg h1] at hv ⊢
    by_cases h2 : c.toNat = 34 ∨ c.toNat = 92
    · rw [if_pos h2] at hv ⊢; cases hv; rw [UInt8.ofNat_toNat]
    · rw [if_neg h2] at hv; cases hv
theorem str_bad {p i : Nat} {b c : UInt8} {r acc : Bytes} (h : b.toNat = 92) (hv : escM c.toNat = none) : strGo p (b :: c :: r) i acc = .no 1 i := by
  rw [strGo.eq_def]; simp only
  rw [if_neg (by omega), if_neg (by omega), if_pos h]
  unfold escM at hv
  by_cases h1 : c.toNat = 110
  · rw [if_pos h1] at hv; cases hv
  · rw [if_neg h1] at hv ⊢
    by_cases h2 : c.toNat = 34 ∨ c.toNat = 92
    · rw [if_pos h2] at hv; cases hv
    · rw [if_neg h2]
theorem esc_lt {c : UInt8} {v : Nat} (h : escM c.toNat = some v) : v < 256 := by
  unfold escM at h
  have := c.toNat_lt
  by_cases h1 : c.toNat = 110
  · rw [if_pos h1] at h; cases h; omega
  · rw [if_neg h1] at h
    by_cases h2 : c.toNat = 34 ∨ c.toNat = 92
    · rw [if_pos h2] at h; cases h; omega
    · rw [if_neg h2] at h; cases h
theorem ofNat_lt {v : Nat} (h : v < 256) : (UInt8.ofNat v).toNat = v := by simp [UInt8.toNat_ofNat]; omega
theorem byteCells_push (acc : Bytes) (b : UInt8) : Lib.byteCells acc ++ [.int .u8 (b.toNat : Int)] = Lib.byteCells (acc ++ [b]) := by simp [Lib.byteCells]
theorem byteCells_len (acc : Bytes) : (Lib.byteCells acc).length = acc.length := by simp [Lib.byteCells]
end Go.Proofs.YtecijhaclbbccaaDoor
