/- Contracts of column.Gather, And, Both and of the statements' own same. -/
import Derived.Test.YtplckcnmpnnkgaaDoorCol2
namespace Go.Proofs.YtplckcnmpnnkgaaDoor
open Go.RowKit
set_option linter.unusedVariables false
set_option linter.unusedSimpArgs false

theorem quiet_mine {P : Program} {f : FuncId} {args : Array Value} {w : World} {n : Nat} {v : Value}
    (h : Calls P f args (w.drewN n) fun e w' => e = .returned v ∧ w.drewN n = w') : Calls P f args (w.drewN n) fun e w'' => e = .returned v ∧ ∃ m, w'' = w.drewN m :=
  h.mono fun _ _ ⟨he, hm⟩ => ⟨he, n, hm.symm⟩

theorem holds_is {o a b : Int} {r : Bool} (h : holdsB o a b = r) (w : World) : Calls Tryd.prog 12 #[.int .i64 o, .int .i64 a, .int .i64 b] w fun e w' => e = .returned (.bool r) ∧ w = w' := h ▸ holds_calls o a b w
theorem owns_drewN {w : World} {base : Nat} {t : TypeId} {size : Nat} {v : Value} {n : Nat} {xs : List Value} (h : w.ownsRow base t size v n xs) (m : Nat) : (w.drewN m).ownsRow base t size v n xs := h

set_option maxHeartbeats 1000000 in
theorem gather_calls (a c : Option Addr) (cap cap' : Nat) (zs sel : List Int) (w : World) (hR : Row w a zs) (hS : Row w c sel) (hlen : zs.length ≤ 1000) (hlen' : sel.length ≤ 1000) :
    Calls Tryd.prog 17 #[.slice a zs.length cap, .slice c sel.length cap'] w (RowRet w (gath zs sel)) := by
  obtain ⟨i0, hi, hz0, hz1, hz2⟩ := info_parts info2
  have I := Lib.hid hi
  have Z0 := Lib.hid hz0
  have Z1 := Lib.hid hz1
  have Z2 := Lib.hid hz2
  clear hi hz0 hz1 hz2
  obtain ⟨B, hB⟩ : ∃ B, w.heap.size = B := ⟨_, rfl⟩
  have HB := Lib.hid hB
  clear hB
  go_enter Tryd.func17, Tryd.ntmps17
  go_wp2_with fail
  go_loopw [5, 10] (fun v i wr => ∃ k : Nat, k ≤ sel.length ∧ i = .int .i64 k ∧ wr.ownsRow B 2 1 v (gath zs (sel.take k)).length ((gath zs (sel.take k)).map (Value.int .i64)) ∧ Below B w wr)
    (fun _ i _ => sel.length - (intOf i).toNat)
  case atStart => exact ⟨0, Nat.zero_le _, rfl, World.ownsRow_nil _ _ _ _, Below.refl _ _⟩
  case round =>
    obtain ⟨k, hk, rfl, hown, hbel⟩ := hrel
    have hBr : B ≤ wr.heap.size := by have := hbel.size; rw [HB.out] at this; exact this
    have hsl : (gath zs (sel.take k)).length ≤ k := by have h1 := gath_le zs (sel.take k); rw [List.length_take_of_le hk] at h1; exact h1
    by_cases hlt : k < sel.length
    · obtain ⟨b, off, rfl, hb, hcell⟩ := (hS.belowB HB.out hbel).at hlt
      by_cases hin : 0 ≤ sel[k]?.getD 0 ∧ sel[k]?.getD 0 < zs.length
      · have S := Lib.hid (gath_yes hlt hin.1 hin.2)
        obtain ⟨j, hj⟩ : ∃ j : Nat, sel[k]?.getD 0 = (j : Int) := ⟨(sel[k]?.getD 0).toNat, by omega⟩
        have hjl : j < zs.length := by omega
        obtain ⟨b2, off2, rfl, hb2, hcell2⟩ := (hR.belowB HB.out hbel).at hjl
        rw [hj] at hcell hin
        have HJ := Lib.hid hj
        clear hj hin
        obtain ⟨y, hy⟩ : ∃ y, zs[j]?.getD 0 = y := ⟨_, rfl⟩
        rw [hy] at hcell2
        have HY := Lib.hid hy
        clear hy
        obtain ⟨xs, hxs⟩ : ∃ xs, gath zs (sel.take k) = xs := ⟨_, rfl⟩
        rw [hxs] at hown hsl
        have HX := Lib.hid hxs
        clear hxs
        go_wp2_with (first | (at_builtin; refine wpList_append_own _ rfl _ _ 28 rfl B 2 i0 (.int .i64 0) 1 8 Tryd.underlying28 I.out Z0.out Z1.out Z2.out rfl (by decide) _ _ _ rfl (hown.alloc _) ⟨wr.heap.size, 0, none⟩ 1 1 [.int .i64 y] rfl rfl ?c1 ?c2 ?c3 ?c4 ?c5 ?_))
        case c1 =>
          intro j u hj
          match j, hj with
          | 0, hj => simp at hj; subst hj; simp [Addr.add]
        case c2 => intro u hu; simp at hu; subst hu; rfl
        case c3 => unfold maxLen; omega
        case c4 => omega
        case c5 => simp; omega
        intro v' w1 hown' hgrow _
        have R := app_step hBr hbel hown hown' hgrow
        clear hown' hgrow hown hcell hcell2
        go_wp2_with fail
        go_roundw
        case rel => exact ⟨k + 1, by omega, by go_num, by rw [S.out, HX.out, HJ.out, Int.toNat_natCast, HY.out]; exact R.1, R.2⟩
        case measure => simp [intOf]; omega
      · have S := Lib.hid (gath_no hlt hin)
        generalize sel[k]?.getD 0 = z at *
        by_cases h0 : 0 ≤ z
        · have h1 : decide (0 ≤ z) = true := by simpa using h0
          have h2 : decide (z < (zs.length : Int)) = false := by simp; omega
          clear hin
          go_wp2_with fail
          go_roundw
          case rel => exact ⟨k + 1, by omega, by go_num, by rw [S.out]; exact hown, hbel⟩
          case measure => simp [intOf]; omega
        · have h1 : decide (0 ≤ z) = false := by simpa using h0
          clear hin
          go_wp2_with fail
          go_roundw
          case rel => exact ⟨k + 1, by omega, by go_num, by rw [S.out]; exact hown, hbel⟩
          case measure => simp [intOf]; omega
    · obtain rfl : k = sel.length := by omega
      rw [List.take_length] at hown
      obtain ⟨a1, c1, rfl, hrow⟩ := row_of_owns hown
      go_wp2_with fail
      go_ret
      exact ⟨a1, c1, rfl, hrow, by rw [HB.out]; exact hbel⟩

set_option maxHeartbeats 1000000 in
theorem both_calls (o : Int) (a c : Option Addr) (cap cap' : Nat) (zs ys : List Int) (w : World) (hR : Row w a zs) (hS : Row w c ys) (hlen : zs.length ≤ 1000) (hlen' : ys.length ≤ 1000) :
    Calls Tryd.prog 15 #[.int .i64 o, .slice a zs.length cap, .slice c ys.length cap'] w (RowRet w (bothL o zs ys)) := by
  obtain ⟨i0, hi, hz0, hz1, hz2⟩ := info_parts info3
  have I := Lib.hid hi
  have Z0 := Lib.hid hz0
  have Z1 := Lib.hid hz1
  have Z2 := Lib.hid hz2
  clear hi hz0 hz1 hz2
  obtain ⟨p, hp⟩ : ∃ p : Nat → Bool, p = fun i => holdsB o (zs[i]?.getD 0) (ys[i]?.getD 0) := ⟨_, rfl⟩
  have HP := Lib.hid hp
  clear hp
  obtain ⟨m, hm⟩ : ∃ m, min zs.length ys.length = m := ⟨_, rfl⟩
  have W : Hid (bothL o zs ys = selTo p m) := by rw [HP.out, ← hm]; exact Lib.hid rfl
  have M := Lib.hid hm
  have hm1 : m ≤ zs.length := by omega
  have hm2 : m ≤ ys.length := by omega
  clear hm
  obtain ⟨B, hB⟩ : ∃ B, w.heap.size = B := ⟨_, rfl⟩
  have HB := Lib.hid hB
  clear hB
  have q : (ys.length < zs.length ∧ m = ys.length) ∨ (¬ ys.length < zs.length ∧ m = zs.length) := by have := M.out; omega
  rcases q with ⟨hmin, q⟩ | ⟨hmin, q⟩
  all_goals
    have Q := Lib.hid q
    clear q
    go_enter Tryd.func15, Tryd.ntmps15
    go_wp2_with fail
    go_loopw [7, 14] (fun v i wr => ∃ k : Nat, k ≤ m ∧ i = .int .i64 k ∧ wr.ownsRow B 3 1 v (selTo p k).length ((selTo p k).map (Value.int .i64)) ∧ Below B w wr)
      (fun _ i _ => m - (intOf i).toNat)
    case atStart => exact ⟨0, Nat.zero_le _, rfl, World.ownsRow_nil _ _ _ _, Below.refl _ _⟩
    case round =>
      obtain ⟨k, hk, rfl, hown, hbel⟩ := hrel
      have hBr : B ≤ wr.heap.size := by have := hbel.size; rw [HB.out] at this; exact this
      have hsl := selTo_le p k
      by_cases hlt : k < m
      · have hl1 : k < zs.length := by omega
        have hl2 : k < ys.length := by omega
        obtain ⟨b, off, rfl, hb, hcell⟩ := (hR.belowB HB.out hbel).at hl1
        obtain ⟨b2, off2, rfl, hb2, hcell2⟩ := (hS.belowB HB.out hbel).at hl2
        have HPk := Lib.hid (show p k = holdsB o (zs[k]?.getD 0) (ys[k]?.getD 0) by rw [HP.out])
        generalize zs[k]?.getD 0 = z at *
        generalize ys[k]?.getD 0 = y at *
        by_cases hpk : p k = true
        · have S := Lib.hid (selTo_yes hpk)
          have hv : Hid (holdsB o z y = true) := by rw [← HPk.out]; exact Lib.hid hpk
          clear hpk
          obtain ⟨xs, hxs⟩ : ∃ xs, selTo p k = xs := ⟨_, rfl⟩
          rw [hxs] at hown hsl
          have HX := Lib.hid hxs
          clear hxs
          go_wp2_with fail
          go_quiet ((go_at_call 12; exact quiet_mine (holds_is hv.out _)))
          have hown2 := owns_drewN hown nq
          have hbel2 := below_drewN hbel nq
          have hBr2 : B ≤ (wr.drewN nq).heap.size := hBr
          clear hown hbel hcell hcell2 hBr
          generalize wr.drewN nq = wq at *
          go_wp2_with (first | (at_builtin; refine wpList_append_own _ rfl _ _ 26 rfl B 3 i0 (.int .i64 0) 1 8 Tryd.underlying26 I.out Z0.out Z1.out Z2.out rfl (by decide) _ _ _ rfl (hown2.alloc _) ⟨wq.heap.size, 0, none⟩ 1 1 [.int .i64 k] rfl rfl ?c1 ?c2 ?c3 ?c4 ?c5 ?_))
          case c1 =>
            intro j u hj
            match j, hj with
            | 0, hj => simp at hj; subst hj; simp [Addr.add]
          case c2 => intro u hu; simp at hu; subst hu; rfl
          case c3 => unfold maxLen; omega
          case c4 => omega
          case c5 => simp; omega
          intro v' w1 hown' hgrow _
          have R := app_step hBr2 hbel2 hown2 hown' hgrow
          clear hown' hgrow hown2 hbel2
          go_wp2_with fail
          go_roundw
          case rel => exact ⟨k + 1, by omega, by go_num, by rw [S.out, HX.out]; exact R.1, R.2⟩
          case measure => simp [intOf]; omega
        · have hv : Hid (holdsB o z y = false) := by rw [← HPk.out]; exact Lib.hid (by simpa using hpk)
          have S := Lib.hid (selTo_no (show p k = false by simpa using hpk))
          clear hpk
          go_wp2_with fail
          go_quiet ((go_at_call 12; exact quiet_mine (holds_is hv.out _)))
          go_wp2_with fail
          go_roundw
          case rel => exact ⟨k + 1, by omega, by go_num, by rw [S.out]; exact owns_drewN hown _, below_drewN hbel _⟩
          case measure => simp [intOf]; omega
      · obtain rfl : k = m := by omega
        obtain ⟨a1, c1, rfl, hrow⟩ := row_of_owns hown
        first
          | (have h9 : ¬ k < ys.length := by have := Q.out; omega
             go_wp2_with fail
             go_ret
             exact ⟨a1, c1, by rw [W.out]; rfl, by rw [W.out]; exact hrow, by rw [HB.out]; exact hbel⟩)
          | (have h9 : ¬ k < zs.length := by have := Q.out; omega
             go_wp2_with fail
             go_ret
             exact ⟨a1, c1, by rw [W.out]; rfl, by rw [W.out]; exact hrow, by rw [HB.out]; exact hbel⟩)

def TrueRet (w : World) (e : Ending) (w' : World) : Prop := e = .returned (.bool true) ∧ Below w.heap.size w w'

set_option maxHeartbeats 1000000 in
theorem same_calls (a c : Option Addr) (cap cap' : Nat) (zs : List Int) (w : World) (hR : Row w a zs) (hS : Row w c zs) (hlen : zs.length ≤ 1000) :
    Calls Tryd.prog 16 #[.slice a zs.length cap, .slice c zs.length cap'] w (TrueRet w) := by
  obtain ⟨B, hB⟩ : ∃ B, w.heap.size = B := ⟨_, rfl⟩
  have HB := Lib.hid hB
  clear hB
  go_enter Tryd.func16, Tryd.ntmps16
  go_wp2_with fail
  go_loopw [13] (fun i wr => ∃ k : Nat, k ≤ zs.length ∧ i = .int .i64 k ∧ Below B w wr) (fun i _ => zs.length - (intOf i).toNat)
  case atStart => exact ⟨0, Nat.zero_le _, rfl, Below.refl _ _⟩
  case round =>
    obtain ⟨k, hk, rfl, hbel⟩ := hrel
    by_cases hlt : k < zs.length
    · obtain ⟨b, off, rfl, hb, hcell⟩ := (hR.belowB HB.out hbel).at hlt
      obtain ⟨b2, off2, rfl, hb2, hcell2⟩ := (hS.belowB HB.out hbel).at hlt
      generalize zs[k]?.getD 0 = z at *
      go_wp2_with fail
      go_quiet (fail)
      have hbel2 := below_drewN hbel nq
      clear hbel hcell hcell2
      generalize wr.drewN nq = wq at *
      go_wp2_with fail
      go_roundw
      case rel => exact ⟨k + 1, by omega, by go_num, hbel2⟩
      case measure => simp [intOf]; omega
    · go_wp2_with fail
      go_ret
      exact ⟨rfl, by rw [HB.out]; exact hbel⟩

set_option maxHeartbeats 2000000 in
theorem and_calls (a c : Option Addr) (cap cap' : Nat) (zs ys : List Int) (w : World) (hR : Row w a zs) (hS : Row w c ys) (hlen : zs.length ≤ 1000) (hlen' : ys.length ≤ 1000) :
    Calls Tryd.prog 18 #[.slice a zs.length cap, .slice c ys.length cap'] w (RowRet w (andL zs ys)) := by
  obtain ⟨i0, hi, hz0, hz1, hz2⟩ := info_parts info3
  have I := Lib.hid hi
  have Z0 := Lib.hid hz0
  have Z1 := Lib.hid hz1
  have Z2 := Lib.hid hz2
  clear hi hz0 hz1 hz2
  obtain ⟨B, hB⟩ : ∃ B, w.heap.size = B := ⟨_, rfl⟩
  have HB := Lib.hid hB
  clear hB
  go_enter Tryd.func18, Tryd.ntmps18
  go_wp2_with fail
  go_loopw [5, 6, 7] (fun v i j wr => ∃ (k l : Nat) (xs : List Int), k ≤ zs.length ∧ l ≤ ys.length ∧ xs.length ≤ k ∧ i = .int .i64 k ∧ j = .int .i64 l ∧ andL zs ys = xs ++ andL (zs.drop k) (ys.drop l) ∧ wr.ownsRow B 3 1 v xs.length (xs.map (Value.int .i64)) ∧ Below B w wr)
    (fun _ i j _ => zs.length + ys.length - (intOf i).toNat - (intOf j).toNat)
  case atStart => exact ⟨0, 0, [], Nat.zero_le _, Nat.zero_le _, Nat.le_refl _, rfl, rfl, by simp, World.ownsRow_nil _ _ _ _, Below.refl _ _⟩
  case round =>
    obtain ⟨k, l, xs, hk, hl, hxl, rfl, rfl, heq, hown, hbel⟩ := hrel
    have HE := Lib.hid heq
    clear heq
    have hBr : B ≤ wr.heap.size := by have := hbel.size; rw [HB.out] at this; exact this
    by_cases h1 : k < zs.length
    · by_cases h2 : l < ys.length
      · obtain ⟨b, off, rfl, hb, hcell⟩ := (hR.belowB HB.out hbel).at h1
        obtain ⟨b2, off2, rfl, hb2, hcell2⟩ := (hS.belowB HB.out hbel).at h2
        have L := fun h => and_lt h1 h2 h
        have G := fun h => and_gt h1 h2 h
        have E := fun h => and_eq h1 h2 h
        generalize zs[k]?.getD 0 = z at *
        generalize ys[l]?.getD 0 = y at *
        rcases Int.lt_trichotomy z y with h | h | h
        · have HL := Lib.hid (L h)
          clear L G E
          have t1 : decide (z < y) = true := by simpa using h
          clear h
          go_wp2_with fail
          go_quiet (fail)
          have hown2 := owns_drewN hown nq
          have hbel2 := below_drewN hbel nq
          clear hbel hcell hcell2 hown hBr
          generalize wr.drewN nq = wq at *
          go_wp2_with fail
          go_roundw
          case rel => exact ⟨k + 1, l, xs, by omega, hl, by omega, by go_num, rfl, by rw [HE.out, HL.out], hown2, hbel2⟩
          case measure => simp [intOf]; omega
        · subst h
          have HL := Lib.hid (E rfl)
          clear L G E
          go_wp2_with fail
          go_quiet (fail)
          have hown2 := owns_drewN hown nq
          have hbel2 := below_drewN hbel nq
          have hBr2 : B ≤ (wr.drewN nq).heap.size := hBr
          have d1 : (wr.drewN nq).cell? ⟨b, off + k, none⟩ = some (.int .i64 z) := hcell
          have d2 : (wr.drewN nq).cell? ⟨b2, off2 + l, none⟩ = some (.int .i64 z) := hcell2
          clear hbel hcell hcell2 hown hBr
          generalize wr.drewN nq = wq at *
          clear nq
          go_wp2_with fail
          go_quiet (fail)
          have hown3 := owns_drewN hown2 nq
          have hbel3 := below_drewN hbel2 nq
          have hBr3 : B ≤ (wq.drewN nq).heap.size := hBr2
          have d3 : (wq.drewN nq).cell? ⟨b, off + k, none⟩ = some (.int .i64 z) := d1
          clear hbel2 d1 d2 hown2 hBr2
          generalize wq.drewN nq = wp at *
          go_wp2_with (first | (at_builtin; refine wpList_append_own _ rfl _ _ 26 rfl B 3 i0 (.int .i64 0) 1 8 Tryd.underlying26 I.out Z0.out Z1.out Z2.out rfl (by decide) _ _ _ rfl (hown3.alloc _) ⟨wp.heap.size, 0, none⟩ 1 1 [.int .i64 z] rfl rfl ?c1 ?c2 ?c3 ?c4 ?c5 ?_))
          case c1 =>
            intro j u hj
            match j, hj with
            | 0, hj => simp at hj; subst hj; simp [Addr.add]
          case c2 => intro u hu; simp at hu; subst hu; rfl
          case c3 => unfold maxLen; omega
          case c4 => omega
          case c5 => simp; omega
          intro v' w1 hown' hgrow _
          have R := app_step hBr3 hbel3 hown3 hown' hgrow
          clear hown' hgrow hown3 hbel3 d3
          go_wp2_with fail
          go_roundw
          case rel => exact ⟨k + 1, l + 1, xs ++ [z], by omega, by omega, by simp; omega, by go_num, by go_num, by rw [HE.out, HL.out]; simp, R.1, R.2⟩
          case measure => simp [intOf]; omega
        · have HL := Lib.hid (G h)
          clear L G E
          have t1 : decide (z < y) = false := by simp; omega
          have t2 : decide (y < z) = true := by simpa using h
          clear h
          go_wp2_with fail
          go_quiet (fail)
          have hown2 := owns_drewN hown nq
          have hbel2 := below_drewN hbel nq
          have d1 : (wr.drewN nq).cell? ⟨b, off + k, none⟩ = some (.int .i64 z) := hcell
          have d2 : (wr.drewN nq).cell? ⟨b2, off2 + l, none⟩ = some (.int .i64 y) := hcell2
          clear hbel hcell hcell2 hown hBr
          generalize wr.drewN nq = wq at *
          clear nq
          go_wp2_with fail
          go_quiet (fail)
          have hown3 := owns_drewN hown2 nq
          have hbel3 := below_drewN hbel2 nq
          clear hbel2 d1 d2 hown2
          generalize wq.drewN nq = wp at *
          go_wp2_with fail
          go_roundw
          case rel => exact ⟨k, l + 1, xs, hk, by omega, hxl, rfl, by go_num, by rw [HE.out, HL.out], hown3, hbel3⟩
          case measure => simp [intOf]; omega
      · have hE : andL zs ys = xs := by rw [HE.out, and_end (.inr (by omega))]; simp
        have HX := Lib.hid hE
        clear hE HE
        obtain ⟨a1, c1, rfl, hrow⟩ := row_of_owns hown
        go_wp2_with fail
        go_ret
        exact ⟨a1, c1, by rw [HX.out]; rfl, by rw [HX.out]; exact hrow, by rw [HB.out]; exact hbel⟩
    · have hE : andL zs ys = xs := by rw [HE.out, and_end (.inl (by omega))]; simp
      have HX := Lib.hid hE
      clear hE HE
      obtain ⟨a1, c1, rfl, hrow⟩ := row_of_owns hown
      go_wp2_with fail
      go_ret
      exact ⟨a1, c1, by rw [HX.out]; rfl, by rw [HX.out]; exact hrow, by rw [HB.out]; exact hbel⟩
end Go.Proofs.YtplckcnmpnnkgaaDoor
