/- The statement ColumnParts, walked. -/
import Derived.Test.YtplckcnmpnnkgaaDoorCol5
import Derived.StillTailTactics
namespace Go.Proofs.YtplckcnmpnnkgaaDoor
open Go.RowKit
set_option linter.unusedVariables false
set_option linter.unusedSimpArgs false

theorem owns_below {w w' : World} {base : Nat} {t : TypeId} {size : Nat} {v : Value} {n : Nat} {xs : List Value} (h : w.ownsRow base t size v n xs) (hb : Below w.heap.size w w') : w'.ownsRow base t size v n xs :=
  h.kept (row := none) ⟨hb.os, hb.tape, hb.output, hb.size, fun k hk _ => hb.block k hk⟩ (by cases v.ownBlock <;> simp)

def cntAt (zs : List Int) (x : Int) (i : Nat) : Int := ((whereL i zs x).length : Int)
def cnts (zs : List Int) (x : Int) (k : Nat) : List Int := (List.range k).map (cntAt zs x)
theorem cnts_succ (zs : List Int) (x : Int) (k : Nat) : cnts zs x (k + 1) = cnts zs x k ++ [cntAt zs x k] := by simp [cnts, List.range_succ]
theorem cnts_len (zs : List Int) (x : Int) (k : Nat) : (cnts zs x k).length = k := by simp [cnts]

set_option maxRecDepth 100000 in
set_option maxHeartbeats 2000000 in
theorem parts_some (x : Int) (a : Option Addr) (cap : Nat) (zs : List Int) (w : World) (hs : Signs w) (hR : Row w a zs) (hlen : zs.length ≤ 200) :
    Calls Tryd.prog 8 #[.slice a zs.length cap, .int .i64 x] w (TrueRet w) := by
  obtain ⟨i0, hi, hz0, hz1, hz2⟩ := info_parts info3
  have I := Lib.hid hi
  have Z0 := Lib.hid hz0
  have Z1 := Lib.hid hz1
  have Z2 := Lib.hid hz2
  clear hi hz0 hz1 hz2
  have t1 : decide (200 < zs.length) = false := by simp; omega
  obtain ⟨B, hB⟩ : ∃ B, w.heap.size = B := ⟨_, rfl⟩
  have HB := Lib.hid hB
  clear hB
  go_enter Tryd.func8, Tryd.ntmps8
  go_wp2_with fail
  refine (head_calls _ hs).mono ?_
  rintro e w0 ⟨rfl, hb0⟩
  rw [HB.out] at hb0
  have hB0 : B ≤ w0.heap.size := by have := hb0.size; rw [HB.out] at this; exact this
  go_wp2_with fail
  go_loopw [5, 6] (fun v i wr => ∃ k : Nat, k ≤ 6 ∧ i = .int .i64 k ∧ wr.ownsRow B 3 1 v (cnts zs x k).length ((cnts zs x k).map (Value.int .i64)) ∧ Below B w wr)
    (fun _ i _ => 6 - (intOf i).toNat)
  case atStart => exact ⟨0, Nat.zero_le _, rfl, World.ownsRow_made w0 #[] 0 hB0 (by decide) rfl, hb0.alloc hB0 _⟩
  case round =>
    clear hb0 hB0
    obtain ⟨k, hk, rfl, hown, hbel⟩ := hrel
    have hBr : B ≤ wr.heap.size := by have := hbel.size; rw [HB.out] at this; exact this
    by_cases hlt : k ≤ 5
    · have hlt2 : (k : Int) ≤ 5 := by omega
      have S := Lib.hid (cnts_succ zs x k)
      have hsl : (cnts zs x k).length ≤ 6 := by rw [cnts_len]; exact hk
      obtain ⟨xs, hxs⟩ : ∃ xs, cnts zs x k = xs := ⟨_, rfl⟩
      rw [hxs] at hown hsl
      have HX := Lib.hid hxs
      clear hxs
      have hl1 : (whereL k zs x).length ≤ 200 := Nat.le_trans (selTo_le _ _) hlen
      go_wp2_with fail
      refine (where_calls k x _ _ zs _ (hR.belowB HB.out hbel) (by omega)).mono ?_
      rintro e w1 ⟨a1, c1, rfl, hr1, hb1⟩
      have hown1 := owns_below hown hb1
      have hbel1 : Below B w w1 := hbel.trans (hb1.mono hBr)
      have hB1 : B ≤ w1.heap.size := Nat.le_trans hBr hb1.size
      have HY : Hid (cntAt zs x k = ((whereL k zs x).length : Int)) := Lib.hid rfl
      clear hown hbel hb1 hr1 hBr
      generalize (whereL k zs x).length = y at *
      go_wp2_with (first | (at_builtin; refine wpList_append_own _ rfl _ _ 26 rfl B 3 i0 (.int .i64 0) 1 8 Tryd.underlying26 I.out Z0.out Z1.out Z2.out rfl (by decide) _ _ _ rfl (hown1.alloc _) ⟨w1.heap.size, 0, none⟩ 1 1 [.int .i64 y] rfl rfl ?c1 ?c2 ?c3 ?c4 ?c5 ?_))
      case c1 =>
        intro j u hj
        match j, hj with
        | 0, hj => simp at hj; subst hj; simp [Addr.add]
      case c2 => intro u hu; simp at hu; subst hu; rfl
      case c3 => unfold maxLen; omega
      case c4 => omega
      case c5 => simp; omega
      intro v' w2 hown' hgrow _
      have R := app_step hB1 hbel1 hown1 hown' hgrow
      clear hown' hgrow hown1
      go_wp2_with fail
      go_roundw
      case rel => exact ⟨k + 1, by omega, by go_num, by rw [S.out, HX.out, HY.out]; exact R.1, R.2⟩
      case measure => simp [intOf]; omega
    · obtain rfl : k = 6 := by omega
      obtain ⟨a1, c1, rfl, hC⟩ := row_of_owns hown
      have hR0 := hR.belowB HB.out hbel
      clear hown hR
      rw [cnts_len]
      go_wp2_with fail
      refine (where_calls 2 x _ _ zs _ hR0 (by omega)).mono ?_
      rintro e w1 ⟨a2, c2, rfl, hL1, hb1⟩
      have hR1 := hR0.below hb1
      have hC1 := hC.below hb1
      have hbel1 : Below B w w1 := hbel.trans (hb1.mono hBr)
      have hB1 : B ≤ w1.heap.size := Nat.le_trans hBr hb1.size
      clear hR0 hC hbel hBr hb1
      go_wp2_with fail
      refine (where_calls 3 x _ _ zs _ hR1 (by omega)).mono ?_
      rintro e w2 ⟨a3, c3, rfl, hM2, hb2⟩
      have hR2 := hR1.below hb2
      have hC2 := hC1.below hb2
      have hL2 := hL1.below hb2
      have hbel2 : Below B w w2 := hbel1.trans (hb2.mono hB1)
      have hB2 : B ≤ w2.heap.size := Nat.le_trans hB1 hb2.size
      clear hR1 hC1 hbel1 hB1 hb2 hL1
      go_wp2_with fail
      refine (where_calls 5 x _ _ zs _ hR2 (by omega)).mono ?_
      rintro e w3 ⟨a4, c4, rfl, hG3, hb3⟩
      have hC3 := hC2.below hb3
      have hL3 := hL2.below hb3
      have hM3 := hM2.below hb3
      have hbel3 : Below B w w3 := hbel2.trans (hb3.mono hB2)
      have hB3 : B ≤ w3.heap.size := Nat.le_trans hB2 hb3.size
      clear hR2 hC2 hbel2 hB2 hb3 hL2 hM2
      have lM : (whereL 3 zs x).length ≤ 200 := Nat.le_trans (selTo_le _ _) hlen
      have lG : (whereL 5 zs x).length ≤ 200 := Nat.le_trans (selTo_le _ _) hlen
      have lL : (whereL 2 zs x).length ≤ 200 := Nat.le_trans (selTo_le _ _) hlen
      go_wp2_with fail
      refine (and_calls _ _ _ _ _ _ _ hM3 hG3 (by omega) (by omega)).mono ?_
      rintro e w4 ⟨a5, c5, rfl, hA4, hb4⟩
      have hC4 := hC3.below hb4
      have hL4 := hL3.below hb4
      have hG4 := hG3.below hb4
      have hbel4 : Below B w w4 := hbel3.trans (hb4.mono hB3)
      have hB4 : B ≤ w4.heap.size := Nat.le_trans hB3 hb4.size
      rw [and35]
      clear hA4 hC3 hbel3 hB3 hb4 hL3 hM3 hG3
      obtain ⟨p1, p2, p3, p4⟩ : (whereL 0 zs x).length + (whereL 2 zs x).length + (whereL 4 zs x).length = zs.length ∧ (whereL 1 zs x).length = (whereL 2 zs x).length + (whereL 4 zs x).length ∧ (whereL 3 zs x).length = (whereL 0 zs x).length + (whereL 2 zs x).length ∧ (whereL 5 zs x).length = (whereL 0 zs x).length + (whereL 4 zs x).length := cnt_parts zs x zs.length
      obtain ⟨b, off, hab, hbl, d0⟩ := hC4.at (k := 0) (by rw [cnts_len]; decide)
      have cells : ∀ i : Nat, i < 6 → w4.cell? ⟨b, off + i, none⟩ = some (.int .i64 (cntAt zs x i)) := by
        intro i hi
        obtain ⟨b', off', hab', _, d⟩ := hC4.at (k := i) (by rw [cnts_len]; exact hi)
        rw [hab] at hab'
        simp only [Option.some.injEq, Addr.mk.injEq, and_true] at hab'
        obtain ⟨rfl, rfl⟩ := hab'
        rw [d]; simp [cnts, List.getElem?_range hi]
      clear d0
      have d0 : w4.cell? ⟨b, off, none⟩ = some (.int .i64 ((whereL 0 zs x).length : Int)) := cells 0 (by decide)
      have d1 : w4.cell? ⟨b, off + 1, none⟩ = some (.int .i64 ((whereL 1 zs x).length : Int)) := cells 1 (by decide)
      have d2 : w4.cell? ⟨b, off + 2, none⟩ = some (.int .i64 ((whereL 2 zs x).length : Int)) := cells 2 (by decide)
      have d3 : w4.cell? ⟨b, off + 3, none⟩ = some (.int .i64 ((whereL 3 zs x).length : Int)) := cells 3 (by decide)
      have d4 : w4.cell? ⟨b, off + 4, none⟩ = some (.int .i64 ((whereL 4 zs x).length : Int)) := cells 4 (by decide)
      have d5 : w4.cell? ⟨b, off + 5, none⟩ = some (.int .i64 ((whereL 5 zs x).length : Int)) := cells 5 (by decide)
      clear cells hC4
      subst hab
      have l1 : (whereL 0 zs x).length ≤ 200 := by omega
      have l4 : (whereL 4 zs x).length ≤ 200 := by omega
      have q1 : IntKind.i64.wrap (((whereL 0 zs x).length : Int) + (whereL 2 zs x).length) = ((whereL 0 zs x).length : Int) + (whereL 2 zs x).length := IntWalk.i64_in _ (by omega)
      have q2 : IntKind.i64.wrap (((whereL 0 zs x).length : Int) + (whereL 2 zs x).length + (whereL 4 zs x).length) = ((whereL 0 zs x).length : Int) + (whereL 2 zs x).length + (whereL 4 zs x).length := IntWalk.i64_in _ (by omega)
      have q3 : IntKind.i64.wrap (((whereL 2 zs x).length : Int) + (whereL 4 zs x).length) = ((whereL 2 zs x).length : Int) + (whereL 4 zs x).length := IntWalk.i64_in _ (by omega)
      have q4 : IntKind.i64.wrap (((whereL 0 zs x).length : Int) + (whereL 4 zs x).length) = ((whereL 0 zs x).length : Int) + (whereL 4 zs x).length := IntWalk.i64_in _ (by omega)
      have e1 : (((whereL 0 zs x).length : Int) + (whereL 2 zs x).length + (whereL 4 zs x).length == (zs.length : Int)) = true := by simp; omega
      have e2 : (((whereL 1 zs x).length : Int) == ((whereL 2 zs x).length : Int) + (whereL 4 zs x).length) = true := by simp; omega
      have e3 : (((whereL 3 zs x).length : Int) == ((whereL 0 zs x).length : Int) + (whereL 2 zs x).length) = true := by simp; omega
      have e4 : (((whereL 5 zs x).length : Int) == ((whereL 0 zs x).length : Int) + (whereL 4 zs x).length) = true := by simp; omega
      clear p1 p2 p3 p4
      go_wp2_with fail
      simp only [List.append_eq, List.cons_append, List.nil_append]
      go_still_tail 64, (by kernel_rfl)
      have hL5 : Row w4.drew a2 (whereL 2 zs x) := hL4
      have hG5 : Row w4.drew a4 (whereL 5 zs x) := hG4
      have hbel5 : Below B w w4.drew := hbel4.drew
      have hB5 : B ≤ w4.drew.heap.size := hB4
      clear d0 d1 d2 d3 d4 d5 q1 q2 q3 q4 e1 e2 e3 e4 hL4 hG4 hbel4 hB4 hbl
      change wpList _ _ _ _ _ w4.drew
      generalize w4.drew = w5 at *
      go_wp2_with fail
      refine (and_calls _ _ _ _ _ _ _ hL5 hG5 (by omega) (by omega)).mono ?_
      rintro e w6 ⟨a6, c6, rfl, hA6, hb6⟩
      rw [and25]
      have hbel6 : Below B w w6 := hbel5.trans (hb6.mono hB5)
      clear hA6 hb6 hbel5
      go_wp2_with fail
      go_ret
      exact ⟨rfl, by rw [HB.out]; exact hbel6⟩

set_option maxRecDepth 100000 in
set_option maxHeartbeats 1000000 in
theorem parts_long (x : Int) (a : Option Addr) (len cap : Nat) (w : World) (hs : Signs w) (hm : len ≤ maxLen) (h : 200 < len) :
    Calls Tryd.prog 8 #[.slice a len cap, .int .i64 x] w (TrueRet w) := by
  unfold maxLen at hm
  have h1 : decide (200 < len) = true := by simpa using h
  go_enter Tryd.func8, Tryd.ntmps8
  go_wp2_with fail
  refine (head_calls _ hs).mono ?_
  rintro e w1 ⟨rfl, hb1⟩
  go_wp2_with fail
  go_ret
  exact ⟨rfl, hb1⟩

theorem parts_walk (a : Option Addr) (len cap : Nat) (zs : List Int) (x : Int) (w : World) (hs : Signs w) (h : IsRow .i64 w a len cap zs) (hbd : ∀ n, (Lit.int .i64 n).wf = true → -9223372036854775808 ≤ n ∧ n ≤ 9223372036854775807) :
    Calls Tryd.prog 8 #[.slice a len cap, .int .i64 x] w (TrueRet w) := by
  obtain ⟨us, rfl, hR, _, hm⟩ := isRow_row h hbd
  by_cases h1 : 200 < us.length
  · exact parts_long _ _ _ _ _ hs hm h1
  · exact parts_some _ _ _ us _ hs hR (by omega)
end Go.Proofs.YtplckcnmpnnkgaaDoor
