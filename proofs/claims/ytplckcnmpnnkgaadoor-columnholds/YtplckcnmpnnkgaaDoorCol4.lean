/- Contracts of column.Fill and column.Do; and the statements' head. -/
import Derived.Test.YtplckcnmpnnkgaaDoorCol3
import Derived.OwnWalk
namespace Go.Proofs.YtplckcnmpnnkgaaDoor
open Go.RowKit
set_option linter.unusedVariables false
set_option linter.unusedSimpArgs false

theorem made_list (n : Nat) : (madeCells #[Value.int .i64 0] n).toList = (List.replicate n (0 : Int)).map (Value.int .i64) :=
  (toList_madeCells_one _ n).trans (by simp)

theorem grown_below {w w1 : World} {B : Nat} (h : w.grownBy w1 none) (hB : B ≤ w.heap.size) : Below B w w1 :=
  (Below.refl _ _).grown h hB (fun k hk => by cases hk)

/-- After k stores of what belongs there. -/
def filled (f : Nat → Int) (n k : Nat) : List Int := (List.range n).map fun i => if i < k then f i else 0
theorem filled_zero (f : Nat → Int) (n : Nat) : filled f n 0 = List.replicate n 0 := by
  unfold filled; apply List.ext_getElem? ; intro i; by_cases h : i < n <;> simp [List.getElem?_replicate, h]
theorem filled_len (f : Nat → Int) (n k : Nat) : (filled f n k).length = n := by simp [filled]
theorem filled_set (f : Nat → Int) (n k : Nat) (h : k < n) : (filled f n k).set k (f k) = filled f n (k + 1) := by
  unfold filled; apply List.ext_getElem?; intro i
  rw [List.getElem?_set]
  by_cases hi : i < n
  · by_cases hk : k = i
    · subst hk; simp [hi]
    · simp only [hk, if_false, List.getElem?_map, List.getElem?_range hi, Option.map_some]
      congr 1
      by_cases h1 : i < k
      · rw [if_pos h1, if_pos (by omega)]
      · rw [if_neg h1, if_neg (by omega)]
  · have e1 : (List.range n)[i]? = none := by simp; omega
    simp [e1]; omega
theorem filled_full (f : Nat → Int) (n : Nat) : filled f n n = (List.range n).map f := by
  unfold filled; apply List.map_congr_left; intro i hi; rw [if_pos (by simpa using hi)]

set_option maxHeartbeats 1000000 in
theorem fill_calls (n : Nat) (x : Int) (w : World) (hn : n ≤ 1000000) :
    Calls Tryd.prog 21 #[.int .i64 n, .int .i64 x] w (RowRet w (List.replicate n x)) := by
  obtain ⟨i0, hi, hz0, hz1, hz2⟩ := info_parts info2
  have I := Lib.hid hi
  have Z0 := Lib.hid hz0
  have Z1 := Lib.hid hz1
  have Z2 := Lib.hid hz2
  clear hi hz0 hz1 hz2
  have F : Hid (List.replicate n x = filled (fun _ => x) n n) := Lib.hid (by rw [filled_full]; apply List.ext_getElem?; intro i; by_cases h : i < n <;> simp [List.getElem?_replicate, h])
  obtain ⟨B, hB⟩ : ∃ B, w.heap.size = B := ⟨_, rfl⟩
  have HB := Lib.hid hB
  clear hB
  go_enter Tryd.func21, Tryd.ntmps21
  go_wp2_with (first | (refine wpList_make_full _ rfl (.tmp 9) (.tmp 9) 28 rfl B 2 i0 (.int .i64 0) 1 Tryd.underlying28 I.out Z0.out Z1.out .i64 .i64 _ _ n rfl rfl rfl rfl ?c1 ?c2 ?c3 ?_))
  case c1 => rw [Z2.out]; omega
  case c2 => unfold maxLen; omega
  case c3 => rw [HB.out]; exact Nat.le_refl _
  intro w1 hown hgrow
  rw [made_list, ← filled_zero (fun _ => x)] at hown
  have hbel : Below B w w1 := grown_below hgrow (Nat.le_of_eq HB.out.symm)
  have hgB : B ≤ w.heap.size := Nat.le_of_eq HB.out.symm
  clear hgrow
  go_wp2_with fail
  go_loopw [12] (fun i wr => ∃ k : Nat, k ≤ n ∧ i = .int .i64 k ∧ wr.ownsRow B 2 1 (.slice (some ⟨w.heap.size, 0, none⟩) n n) n ((filled (fun _ => x) n k).map (Value.int .i64)) ∧ Below B w wr) (fun i _ => n - (intOf i).toNat)
  case atStart => exact ⟨0, Nat.zero_le _, rfl, hown, hbel⟩
  case round =>
    clear hown hbel
    obtain ⟨k, hk, rfl, hown, hbel⟩ := hrel
    by_cases hlt : k < n
    · obtain ⟨y, hy⟩ : ∃ y, (filled (fun _ => x) n k)[k]? = some y := ⟨_, List.getElem?_eq_getElem (by rw [filled_len]; exact hlt)⟩
      have hc : wr.cell? ⟨w.heap.size, k, none⟩ = some (.int .i64 y) := (hown.cellAt k (by omega)).trans (by rw [List.getElem?_map, hy]; rfl)
      have hf := hown.frozenAt k
      have hst := (hown.stored k (.int .i64 x)).1
      rw [← List.map_set, filled_set (fun _ => x) n k hlt] at hst
      have hbel2 := hbel.setCell (p := ⟨w.heap.size, k, none⟩) hgB (.int .i64 x)
      clear hown hbel hy
      go_wp2_with fail
      go_roundw
      case rel => exact ⟨k + 1, by omega, by go_num, hst, hbel2⟩
      case measure => simp [intOf]; omega
    · obtain rfl : k = n := by omega
      obtain ⟨a1, c1, ha1, hrow⟩ := row_of_owns hown
      simp only [Value.slice.injEq] at ha1
      obtain ⟨rfl, hl, rfl⟩ := ha1
      have HL := Lib.hid hl
      clear hl
      go_wp2_with fail
      go_ret
      exact ⟨_, k, by rw [List.length_replicate]; rfl, by rw [F.out]; exact hrow, by rw [HB.out]; exact hbel⟩

set_option maxHeartbeats 1000000 in
theorem fill_none (n x : Int) (w : World) (hn : n < 0) :
    Calls Tryd.prog 21 #[.int .i64 n, .int .i64 x] w (RowRet w []) := by
  go_enter Tryd.func21, Tryd.ntmps21
  go_wp2_with fail
  go_ret
  exact ⟨none, 0, rfl, .inl rfl, Below.refl _ _⟩

/-- The numbers of a row are within the bounds of int64. -/
def Bnd (zs : List Int) : Prop := ∀ z ∈ zs, -9223372036854775808 ≤ z ∧ z ≤ 9223372036854775807
theorem Bnd.at {zs : List Int} (hz : Bnd zs) (k : Nat) : -9223372036854775808 ≤ zs[k]?.getD 0 ∧ zs[k]?.getD 0 ≤ 9223372036854775807 := by
  by_cases h : k < zs.length
  · rw [List.getElem?_eq_getElem h]; exact hz _ (List.getElem_mem h)
  · rw [List.getElem?_eq_none (by omega)]; decide

def okAt (o : Int) (zs ys : List Int) (i : Nat) : Bool := doOk o (zs[i]?.getD 0) (ys[i]?.getD 0)
def valAt (o : Int) (zs ys : List Int) (i : Nat) : Int := doVal o (zs[i]?.getD 0) (ys[i]?.getD 0)
def okTo (o : Int) (zs ys : List Int) (k : Nat) : Prop := ∀ i, i < k → okAt o zs ys i = true
theorem okTo_succ {o : Int} {zs ys : List Int} {k : Nat} (h : okTo o zs ys k) (h1 : okAt o zs ys k = true) : okTo o zs ys (k + 1) := by
  intro i hi
  by_cases e : i = k
  · rw [e]; exact h1
  · exact h i (by omega)
def doRow (o : Int) (zs ys : List Int) (m : Nat) : List Int := (List.range m).map (valAt o zs ys)

/-- A slice that reads as xs, and a number. -/
def RowRet2 (w : World) (xs : List Int) (n : Int) (e : Ending) (w' : World) : Prop := ∃ a cap, e = .returned (.tuple #[.slice a xs.length cap, .int .i64 n]) ∧ Row w' a xs ∧ Below w.heap.size w w'
/-- What column.Do answers: all results and -1, or nothing and the first place without one. -/
def DoRet (o : Int) (zs ys : List Int) (m : Nat) (w : World) (e : Ending) (w' : World) : Prop :=
  (okTo o zs ys m ∧ RowRet2 w (doRow o zs ys m) (-1) e w') ∨ ∃ j : Nat, j < m ∧ okTo o zs ys j ∧ okAt o zs ys j = false ∧ RowRet2 w [] j e w'

theorem do_is {o a b v : Int} {r : Bool} (w : World) (ha : -9223372036854775808 ≤ a ∧ a ≤ 9223372036854775807) (hb : -9223372036854775808 ≤ b ∧ b ≤ 9223372036854775807) (h : doOk o a b = r) (hv : doVal o a b = v) :
    Calls Tryd.prog 19 #[.int .i64 o, .int .i64 a, .int .i64 b] w fun e w' => e = .returned (.tuple #[.int .i64 v, .bool r]) ∧ w = w' := by
  subst h; subst hv; exact do_calls o a b w ha.1 ha.2 hb.1 hb.2

set_option maxHeartbeats 2000000 in
theorem coldo_calls (o : Int) (a c : Option Addr) (cap cap' : Nat) (zs ys : List Int) (w : World) (hR : Row w a zs) (hS : Row w c ys) (hz : Bnd zs) (hy : Bnd ys) (hlen : zs.length ≤ 1000) (hlen' : ys.length ≤ 1000) :
    Calls Tryd.prog 20 #[.int .i64 o, .slice a zs.length cap, .slice c ys.length cap'] w (DoRet o zs ys (min zs.length ys.length) w) := by
  obtain ⟨i0, hi, hz0, hz1, hz2⟩ := info_parts info2
  have I := Lib.hid hi
  have Z0 := Lib.hid hz0
  have Z1 := Lib.hid hz1
  have Z2 := Lib.hid hz2
  clear hi hz0 hz1 hz2
  obtain ⟨m, hm⟩ : ∃ m, min zs.length ys.length = m := ⟨_, rfl⟩
  rw [hm]
  have M := Lib.hid hm
  have hm1 : m ≤ zs.length := by omega
  have hm2 : m ≤ ys.length := by omega
  clear hm
  have F : Hid (doRow o zs ys m = filled (valAt o zs ys) m m) := Lib.hid (filled_full _ _).symm
  obtain ⟨B, hB⟩ : ∃ B, w.heap.size = B := ⟨_, rfl⟩
  have HB := Lib.hid hB
  clear hB
  have hgB : B ≤ w.heap.size := Nat.le_of_eq HB.out.symm
  have q : (ys.length < zs.length ∧ m = ys.length) ∨ (¬ ys.length < zs.length ∧ m = zs.length) := by have := M.out; omega
  rcases q with ⟨hmin, q⟩ | ⟨hmin, q⟩
  all_goals
    have Q := Lib.hid q
    clear q
    go_enter Tryd.func20, Tryd.ntmps20
    go_wp2_with (first | (refine wpList_make_full _ rfl (.tmp 16) (.tmp 16) 28 rfl B 2 i0 (.int .i64 0) 1 Tryd.underlying28 I.out Z0.out Z1.out .i64 .i64 _ _ m rfl rfl ?c4 ?c5 ?c1 ?c2 ?c3 ?_))
    case c1 => rw [Z2.out]; omega
    case c2 => unfold maxLen; omega
    case c3 => exact hgB
    case c4 => rw [Q.out]
    case c5 => rw [Q.out]
    intro w1 hown hgrow
    have hbel : Below B w w1 := grown_below hgrow hgB
    have hown0 : w1.ownsRow B 2 1 (.slice (some ⟨w.heap.size, 0, none⟩) m m) m ((filled (valAt o zs ys) m 0).map (Value.int .i64)) := by
      rw [filled_zero, ← made_list]; simpa using hown
    clear hgrow hown
    go_wp2_with fail
    go_loopw [20] (fun i wr => ∃ k : Nat, k ≤ m ∧ i = .int .i64 k ∧ okTo o zs ys k ∧ wr.ownsRow B 2 1 (.slice (some ⟨w.heap.size, 0, none⟩) m m) m ((filled (valAt o zs ys) m k).map (Value.int .i64)) ∧ Below B w wr) (fun i _ => m - (intOf i).toNat)
    case atStart => exact ⟨0, Nat.zero_le _, rfl, fun i hi => by omega, hown0, hbel⟩
    case round =>
      clear hown0 hbel
      obtain ⟨k, hk, rfl, hok, hown, hbel⟩ := hrel
      have HK := Lib.hid hok
      clear hok
      by_cases hlt : k < m
      · have hl1 : k < zs.length := by omega
        have hl2 : k < ys.length := by omega
        obtain ⟨b, off, rfl, hb, hcell⟩ := (hR.belowB HB.out hbel).at hl1
        obtain ⟨b2, off2, rfl, hb2, hcell2⟩ := (hS.belowB HB.out hbel).at hl2
        have B1 := Lib.hid (hz.at k)
        have B2 := Lib.hid (hy.at k)
        have V : Hid (valAt o zs ys k = doVal o (zs[k]?.getD 0) (ys[k]?.getD 0)) := Lib.hid rfl
        have O : Hid (okAt o zs ys k = doOk o (zs[k]?.getD 0) (ys[k]?.getD 0)) := Lib.hid rfl
        generalize zs[k]?.getD 0 = z at *
        generalize ys[k]?.getD 0 = y at *
        by_cases hd : doOk o z y = true
        · have D := Lib.hid hd
          clear hd
          obtain ⟨v, hv⟩ : ∃ v, valAt o zs ys k = v := ⟨_, rfl⟩
          have HV := Lib.hid hv
          have HV2 : Hid (doVal o z y = v) := Lib.hid (by rw [← V.out]; exact hv)
          clear hv
          go_wp2_with fail
          go_quiet ((go_at_call 19; exact quiet_mine (do_is _ B1.out B2.out D.out HV2.out)))
          have hown2 := owns_drewN hown nq
          have hbel2 := below_drewN hbel nq
          clear hbel hcell hcell2 hown
          generalize wr.drewN nq = wq at *
          obtain ⟨x, hx⟩ : ∃ x, (filled (valAt o zs ys) m k)[k]? = some x := ⟨_, List.getElem?_eq_getElem (by rw [filled_len]; exact hlt)⟩
          have hc : wq.cell? ⟨w.heap.size, k, none⟩ = some (.int .i64 x) := (hown2.cellAt k (by omega)).trans (by rw [List.getElem?_map, hx]; rfl)
          have hf := hown2.frozenAt k
          have hst := (hown2.stored k (.int .i64 v)).1
          rw [← List.map_set, ← HV.out, filled_set (valAt o zs ys) m k hlt, HV.out] at hst
          have hbel3 := hbel2.setCell (p := ⟨w.heap.size, k, none⟩) hgB (.int .i64 v)
          clear hown2 hbel2 hx
          go_wp2_with fail
          go_roundw
          case rel => exact ⟨k + 1, by omega, by go_num, okTo_succ HK.out (by rw [O.out]; exact D.out), hst, hbel3⟩
          case measure => simp [intOf]; omega
        · have D : Hid (doOk o z y = false) := Lib.hid (by simpa using hd)
          clear hd
          go_wp2_with fail
          go_quiet ((go_at_call 19; exact quiet_mine (do_is _ B1.out B2.out D.out rfl)))
          have hbel2 := below_drewN hbel nq
          clear hbel hcell hcell2 hown
          generalize wr.drewN nq = wq at *
          go_wp2_with fail
          go_ret2
          exact .inr ⟨k, hlt, HK.out, by rw [O.out]; exact D.out, none, 0, rfl, .inl rfl, by rw [HB.out]; exact hbel2⟩
      · obtain rfl : k = m := by omega
        obtain ⟨a1, c1, ha1, hrow⟩ := row_of_owns hown
        simp only [Value.slice.injEq] at ha1
        obtain ⟨rfl, hl, rfl⟩ := ha1
        have HL := Lib.hid hl
        clear hl
        go_wp2_with fail
        go_ret2
        exact .inl ⟨HK.out, _, k, by rw [show (doRow o zs ys k).length = k by simp [doRow]]; rfl, by rw [F.out]; exact hrow, by rw [HB.out]; exact hbel⟩

/-- A literal of integers, as it is made. -/
theorem row_lit (w : World) (zs : List Int) (t : TypeId) (o : Obj) (h : o = .cells (zs.map (Value.int .i64)).toArray t) : Row (w.alloc o) (some ⟨w.heap.size, 0, none⟩) zs := by
  subst h
  refine .inr ⟨w.heap.size, 0, rfl, by simp, fun i hi => ?_⟩
  rw [Nat.zero_add, cell_of_row _ w.heap.size i _ t (0, 0) (heap_alloc_new w _)]
  simp [List.getElem?_eq_getElem hi]

set_option maxHeartbeats 1000000 in
theorem head_calls (w : World) (hs : Signs w) : Calls Tryd.prog 10 #[] w (TrueRet w) := by
  have e6 : signOf 3 = ⟨#[60, 61]⟩ := by decide
  have e7 : whereL 5 [5, 2, 9] 5 = [0, 2] := by decide
  have E7 := Lib.hid e7
  clear e7
  go_enter Tryd.func10, Tryd.ntmps10
  go_wp2_with fail
  refine (where_calls 5 5 (some ⟨w.heap.size, 0, none⟩) 3 [5, 2, 9] _ (row_lit w [5, 2, 9] 2 _ rfl) (by decide)).mono ?_
  rintro e w1 ⟨a1, c1, rfl, hrow, hb1⟩
  rw [E7.out] at hrow ⊢
  have hB1 : Below w.heap.size w w1 := ((Below.refl _ _).alloc (Nat.le_refl _) _).trans (hb1.mono (by simp))
  clear hb1
  have hs1 := hs.below hB1
  obtain ⟨b, off, rfl, hlt, hc0⟩ := hrow.at (k := 0) (by decide)
  obtain ⟨b', off', hbb, _, hc1⟩ := hrow.at (k := 1) (by decide)
  simp only [Option.some.injEq, Addr.mk.injEq, and_true] at hbb
  obtain ⟨rfl, rfl⟩ := hbb
  have d0 : w1.cell? ⟨b, off, none⟩ = some (.int .i64 0) := by simpa using hc0
  have d1 : w1.cell? ⟨b, off + 1, none⟩ = some (.int .i64 2) := by simpa using hc1
  clear hc0 hc1 hrow
  go_wp2_with (first | (go_at_call 11; refine (sign_calls _ _ hs1).mono ?_; rintro e w' ⟨rfl, rfl⟩))
  refine (fill_calls 3 7 _ (by decide)).mono ?_
  rintro e w2 ⟨a2, c2, rfl, hrow2, hb2⟩
  have hB2 : Below w.heap.size w w2 := hB1.trans (hb2.mono hB1.size)
  clear hrow2 hb2 hB1
  go_wp2_with fail
  go_ret
  exact ⟨rfl, hB2⟩
end Go.Proofs.YtplckcnmpnnkgaaDoor
