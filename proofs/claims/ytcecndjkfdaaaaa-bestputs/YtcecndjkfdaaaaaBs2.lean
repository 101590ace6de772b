/- best's bytesOf: eight bytes of each number. -/
import Derived.Test.YtcecndjkfdaaaaaBs1
import Derived.Laws.BytesArg
import Derived.Lib.BufferRead
namespace Go.Proofs.Ytcecndjkfdaaaaa
open Go.RowKit
set_option linter.unusedVariables false
set_option linter.unusedSimpArgs false

theorem info5 : (Try.prog.info? 5).map (fun i => (i.zero, i.size, i.bytes)) = some (some (.int .u8 0), 1, 1) := by kernel_rfl
def byteAt (x : Int) (j : Nat) : Int := x / 2 ^ (8 * j) % 256
def bytesX (x : Int) (j : Nat) : List Int := (List.range j).map (byteAt x)
def bytesK (key : List Int) : List Int := key.flatMap fun x => bytesX x 8
theorem bytesX_succ (x : Int) (j : Nat) : bytesX x (j + 1) = bytesX x j ++ [byteAt x j] := by simp [bytesX, List.range_succ]
theorem bytesK_take {key : List Int} {i : Nat} (h : i < key.length) : bytesK (key.take (i + 1)) = bytesK (key.take i) ++ bytesX (key[i]?.getD 0) 8 := by
  unfold bytesK
  rw [List.take_succ_eq_append_getElem h, List.flatMap_append, List.getElem?_eq_getElem h]; simp
theorem bytesK_len (key : List Int) : (bytesK key).length = 8 * key.length := by
  induction key with
  | nil => rfl
  | cons x key ih =>
    have : bytesK (x :: key) = bytesX x 8 ++ bytesK key := by simp [bytesK]
    rw [this, List.length_append, ih]; simp [bytesX]; omega
theorem bytesX_len (x : Int) (j : Nat) : (bytesX x j).length = j := by simp [bytesX]
/-- What an appended byte leaves. -/
theorem app_byte {w wr w1 : World} {B : Nat} {v v' : Value} {xs : List Int} {y : Int} (hB : B ≤ wr.heap.size) (hbel : Below B w wr) (hown : wr.ownsRow B 5 1 v xs.length (xs.map (Value.int .u8)))
    (hown' : w1.ownsRow B 5 1 v' (xs.length + 1) (xs.map (Value.int .u8) ++ [.int .u8 y])) (hgrow : (wr.alloc (.cells #[.int .u8 y] 5)).grownBy w1 v.ownBlock) :
    w1.ownsRow B 5 1 v' (xs ++ [y]).length ((xs ++ [y]).map (Value.int .u8)) ∧ Below B w w1 := by
  refine ⟨by rw [List.length_append, List.map_append]; exact hown', ?_⟩
  exact (hbel.alloc hB _).grown hgrow (by simp; omega) (fun k hk => (hown.lt k hk).1)
def BytesRet (w : World) (key : List Int) (e : Ending) (w' : World) : Prop := e = .returned (.string (strOfNums (bytesK key))) ∧ Below w.heap.size w w'
theorem conv_bytes {w : World} {B n : Nat} {v : Value} {xs : List Int} (h : w.ownsRow B 5 1 v xs.length (xs.map (Value.int .u8))) : (convert 105 9 v).run Try.prog w = .ok (.string (strOfNums xs)) w := by
  rcases h.2 with ⟨rfl, h0⟩ | ⟨g, cap, cur, rfl, _⟩
  · have e : xs = [] := List.eq_nil_of_length_eq_zero h0
    subst e
    exact Lib.run_convert_nil_bytes w 105 9 5 0 Try.underlying105 Try.underlying5 Try.underlying9
  · refine run_convert_bytes_arg (P := Try.prog) (w := w) 105 5 Try.underlying105 Try.underlying5 g 0 xs.length cap xs rfl (fun i hi => ?_) 9 Try.underlying9
    rw [Nat.zero_add, World.ownsRow.cellAt h i (by omega), List.getElem?_map, List.getElem?_eq_getElem hi, List.getD_eq_getElem?_getD, List.getElem?_eq_getElem hi]; rfl
set_option maxRecDepth 100000 in
set_option maxHeartbeats 2000000 in
theorem bytesOf_calls (a : Option Addr) (ca : Nat) (key : List Int) (w : World) (hk : Row w a key) (hl : key.length ≤ 1000) : Calls Try.prog 54 #[.slice a key.length ca] w (BytesRet w key) := by
  obtain ⟨i0, hi0, hz0, hz1, hz2⟩ := info_parts info5
  have I := Lib.hid hi0
  have Z0 := Lib.hid hz0
  have Z1 := Lib.hid hz1
  have Z2 := Lib.hid hz2
  obtain ⟨B, hB⟩ : ∃ B, w.heap.size = B := ⟨_, rfl⟩
  have HB := Lib.hid hB
  have HK := Lib.hid hk
  clear hi0 hz0 hz1 hz2 hB hk
  go_enter Try.func54, Try.ntmps54
  go_wp2_with (first | (refine wpList_make_own _ rfl _ _ 105 rfl B 5 i0 (.int .u8 0) 1 Try.underlying105 I.out Z0.out Z1.out .i64 .i64 _ (8 * key.length) rfl rfl ?m0 ?m1 ?m2 ?m3 ?_))
  case m0 => first | rfl | (simp; omega) | omega
  case m1 => rw [Z2.out]; omega
  case m2 => unfold maxLen; omega
  case m3 => rw [HB.out]; omega
  intro w1 hown hgrow
  have O1 := Lib.hid hown
  have B1 := Lib.hid ((Below.refl B w).grown hgrow (by rw [HB.out]; omega) (fun k e => by cases e))
  rw [HB.out] at O1 ⊢
  clear hown hgrow
  go_wp2_with fail
  go_loopw [13, 3] (fun s v wr => ∃ (i : Nat) (u : Value), i ≤ key.length ∧ s = .int .i64 i ∧ u = v ∧ Hid (wr.ownsRow B 5 1 u (bytesK (key.take i)).length ((bytesK (key.take i)).map (Value.int .u8))) ∧ Hid (Below B w wr)) (fun s _ _ => key.length - (intOf s).toNat)
  case atStart => exact ⟨0, _, Nat.zero_le _, rfl, rfl, Lib.hid (by simpa [bytesK] using O1.out), B1⟩
  case round =>
    obtain ⟨i, u, hi, rfl, rfl, HO, HL⟩ := hrel
    obtain ⟨X, rfl⟩ : ∃ x, x = wr := ⟨wr, rfl⟩
    by_cases hlt : i < key.length
    · obtain ⟨kb, ko, rfl, _, hkc⟩ := (HK.out.belowB HB.out HL.out).at hlt
      have ST := Lib.hid (bytesK_take hlt)
      have hbl : (bytesK (key.take i)).length ≤ 8000 := by rw [bytesK_len, List.length_take]; omega
      generalize key[i]?.getD 0 = x at *
      generalize bytesK (key.take i) = P0 at *
      go_wp2_with fail
      go_loopw [6, 3] (fun s v wr => ∃ (j : Nat) (u2 : Value), j ≤ 8 ∧ s = .int .i64 (8 * (j : Int)) ∧ u2 = v ∧ Hid (wr.ownsRow B 5 1 u2 (P0 ++ bytesX x j).length ((P0 ++ bytesX x j).map (Value.int .u8))) ∧ Hid (Below B w wr)) (fun s _ _ => 64 - (intOf s).toNat)
      case atStart => exact ⟨0, _, Nat.zero_le _, rfl, rfl, Lib.hid (by simpa [bytesX] using HO.out), HL⟩
      case round =>
        obtain ⟨j, u2, hj, rfl, rfl, HO2, HL2⟩ := hrel
        obtain ⟨Y, rfl⟩ : ∃ x, x = wr := ⟨wr, rfl⟩
        have hBY : B ≤ Y.heap.size := by have := HL2.out.size; rw [HB.out] at this; exact this
        by_cases hj8 : j < 8
        · have hql : (P0 ++ bytesX x j).length ≤ 8100 := by rw [List.length_append, bytesX_len]; omega
          have SS : Hid (P0 ++ bytesX x (j + 1) = (P0 ++ bytesX x j) ++ [byteAt x j]) := Lib.hid (by rw [bytesX_succ, List.append_assoc])
          have tj : decide (8 * (j : Int) < 64) = true := decide_eq_true (by omega)
          generalize P0 ++ bytesX x j = P1 at *
          go_wp2_with (first | (at_builtin; refine wpList_append_own _ rfl _ _ 105 rfl B 5 i0 (.int .u8 0) 1 1 Try.underlying105 I.out Z0.out Z1.out Z2.out rfl (by decide) _ _ _ rfl (HO2.out.alloc _) ⟨Y.heap.size, 0, none⟩ 1 1 [.int .u8 (x / 2 ^ (8 * j) % 256)] rfl rfl ?c1 ?c2 ?c3 ?c4 ?c5 ?_))
          case c1 => exact cell_one_new Y _ _
          case c2 => intro u hu; simp at hu; subst hu; rfl
          case c3 => unfold maxLen; omega
          case c4 => omega
          case c5 => simp; omega
          intro v' w2 hown' hgrow _
          have R := app_byte hBY HL2.out HO2.out hown' hgrow
          have O2 := Lib.hid R.1
          have B2 := Lib.hid R.2
          rw [show x / 2 ^ (8 * j) % 256 = byteAt x j from rfl, ← SS.out] at O2
          clear hown' hgrow R
          go_wp2_with fail
          go_roundw
          case rel => exact ⟨j + 1, _, by omega, by go_num, rfl, O2, B2⟩
          case measure => simp [intOf]; omega
        · obtain rfl : j = 8 := by omega
          have O6 : Hid (Y.ownsRow B 5 1 u2 (bytesK (key.take (i + 1))).length ((bytesK (key.take (i + 1))).map (Value.int .u8))) := Lib.hid (by rw [ST.out]; exact HO2.out)
          go_wp2_with fail
          go_roundw
          case rel => exact ⟨i + 1, u2, by omega, by go_num, rfl, O6, HL2⟩
          case measure => simp [intOf]; omega
    · have tl : decide (i < key.length) = false := decide_eq_false hlt
      have hfin : X.ownsRow B 5 1 u (bytesK key).length ((bytesK key).map (Value.int .u8)) := by
        have := HO.out
        rw [List.take_of_length_le (by omega)] at this
        exact this
      have cv := conv_bytes (n := 0) hfin
      clear hfin
      go_wp2_with fail
      go_ret
      exact ⟨rfl, by rw [HB.out]; exact HL.out⟩
end Go.Proofs.Ytcecndjkfdaaaaa
