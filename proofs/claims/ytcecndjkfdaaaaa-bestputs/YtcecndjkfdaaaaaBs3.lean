/- Keys with the same bytes are the same. -/
import Derived.Test.YtcecndjkfdaaaaaBs2
namespace Go.Proofs.Ytcecndjkfdaaaaa
open Go.RowKit
set_option linter.unusedVariables false
set_option linter.unusedSimpArgs false

theorem byteAt_range (x : Int) (j : Nat) : 0 ≤ byteAt x j ∧ byteAt x j < 256 := by unfold byteAt; omega
theorem bytesK_range {key : List Int} {z : Int} (h : z ∈ bytesK key) : 0 ≤ z ∧ z < 256 := by
  simp only [bytesK, bytesX, List.mem_flatMap, List.mem_map] at h
  obtain ⟨x, _, j, _, rfl⟩ := h
  exact byteAt_range x j
theorem strOfNums_inj : ∀ {xs ys : List Int}, (∀ z ∈ xs, 0 ≤ z ∧ z < 256) → (∀ z ∈ ys, 0 ≤ z ∧ z < 256) → strOfNums xs = strOfNums ys → xs = ys := by
  intro xs ys hx hy h
  have h1 : xs.map (fun n => UInt8.ofNat n.toNat) = ys.map (fun n => UInt8.ofNat n.toNat) := by
    rw [← strOfNums_data, ← strOfNums_data, h]
  clear h
  induction xs generalizing ys with
  | nil => cases ys with
    | nil => rfl
    | cons y ys => simp at h1
  | cons x xs ih =>
    cases ys with
    | nil => simp at h1
    | cons y ys =>
      simp only [List.map_cons, List.cons.injEq] at h1
      have hx0 := hx x (List.mem_cons_self ..)
      have hy0 := hy y (List.mem_cons_self ..)
      have e : x.toNat = y.toNat := by
        have := congrArg UInt8.toNat h1.1
        simp at this
        omega
      rw [ih (fun z hz => hx z (List.mem_cons_of_mem _ hz)) (fun z hz => hy z (List.mem_cons_of_mem _ hz)) h1.2, show x = y by omega]
theorem byte_step {x y : Int} (h0 : x % 256 = y % 256) (h1 : x / 256 = y / 256) : x = y := by omega
theorem byte_div (x : Int) (j : Nat) : x / 2 ^ (8 * (j + 1)) = (x / 256) / 2 ^ (8 * j) := by
  rw [show (2 : Int) ^ (8 * (j + 1)) = 256 * 2 ^ (8 * j) by rw [show 8 * (j + 1) = 8 + 8 * j by omega, Int.pow_add]; rfl]
  exact (Int.ediv_ediv_of_nonneg (by decide)).symm
theorem byteAt_div (x : Int) (j : Nat) : byteAt x (j + 1) = byteAt (x / 256) j := by unfold byteAt; rw [byte_div]
/-- The bytes tell a number of that many bytes. -/
theorem bytes_num : ∀ (n : Nat) (x y : Int), (∀ j, j < n → byteAt x j = byteAt y j) → x / 2 ^ (8 * n) = y / 2 ^ (8 * n) → x = y
  | 0, x, y, _, h => by simpa using h
  | n + 1, x, y, hb, h => by
    have h1 := bytes_num n (x / 256) (y / 256) (fun j hj => by rw [← byteAt_div, ← byteAt_div]; exact hb (j + 1) (by omega)) (by rw [← byte_div, ← byte_div]; exact h)
    have h0 := hb 0 (by omega)
    simp [byteAt] at h0
    exact byte_step h0 h1
theorem bytes_top {x : Int} (h : -9223372036854775808 ≤ x ∧ x ≤ 9223372036854775807) : x / 2 ^ (8 * 8) = if x < 0 then -1 else 0 := by
  rw [show (2 : Int) ^ (8 * 8) = 18446744073709551616 by decide]
  split <;> omega
theorem bytesX_inj {x y : Int} (hx : -9223372036854775808 ≤ x ∧ x ≤ 9223372036854775807) (hy : -9223372036854775808 ≤ y ∧ y ≤ 9223372036854775807) (h : bytesX x 8 = bytesX y 8) : x = y := by
  have hb : ∀ j, j < 8 → byteAt x j = byteAt y j := fun j hj => by
    have := congrArg (fun l => l[j]?) h
    simpa [bytesX, hj] using this
  have h7 := hb 7 (by omega)
  have e7 : ∀ z : Int, byteAt z 7 = z / 72057594037927936 % 256 := fun z => by unfold byteAt; rw [show (2 : Int) ^ (8 * 7) = 72057594037927936 by decide]
  rw [e7, e7] at h7
  refine bytes_num 8 x y hb ?_
  rw [bytes_top hx, bytes_top hy]
  by_cases h1 : x < 0
  · rw [if_pos h1, if_pos (by omega)]
  · rw [if_neg h1, if_neg (by omega)]
def InRange (key : List Int) : Prop := ∀ x ∈ key, -9223372036854775808 ≤ x ∧ x ≤ 9223372036854775807
theorem bytesK_inj : ∀ {k1 k2 : List Int}, InRange k1 → InRange k2 → bytesK k1 = bytesK k2 → k1 = k2
  | [], [], _, _, _ => rfl
  | [], y :: k2, _, _, h => by have := congrArg List.length h; rw [bytesK_len, bytesK_len] at this; simp at this
  | x :: k1, [], _, _, h => by have := congrArg List.length h; rw [bytesK_len, bytesK_len] at this; simp at this
  | x :: k1, y :: k2, h1, h2, h => by
    have e1 : bytesK (x :: k1) = bytesX x 8 ++ bytesK k1 := by simp [bytesK]
    have e2 : bytesK (y :: k2) = bytesX y 8 ++ bytesK k2 := by simp [bytesK]
    rw [e1, e2] at h
    have h3 := List.append_inj h (by rw [bytesX_len, bytesX_len])
    rw [bytesX_inj (h1 x (List.mem_cons_self ..)) (h2 y (List.mem_cons_self ..)) h3.1, bytesK_inj (fun z hz => h1 z (List.mem_cons_of_mem _ hz)) (fun z hz => h2 z (List.mem_cons_of_mem _ hz)) h3.2]
/-- The text of a key. -/
def keyText (key : List Int) : ByteArray := strOfNums (bytesK key)
theorem keyText_inj {k1 k2 : List Int} (h1 : InRange k1) (h2 : InRange k2) (h : keyText k1 = keyText k2) : k1 = k2 :=
  bytesK_inj h1 h2 (strOfNums_inj (fun z hz => bytesK_range hz) (fun z hz => bytesK_range hz) h)
end Go.Proofs.Ytcecndjkfdaaaaa
