/- The statements ColumnGathers, ColumnAnds, ColumnChains, walked. -/
import Derived.Test.YtplckcnmpnnkgaaDoorCol4
namespace Go.Proofs.YtplckcnmpnnkgaaDoor
open Go.RowKit
set_option linter.unusedVariables false
set_option linter.unusedSimpArgs false

/-- What the walk is told of a slice of integers that came in. -/
def IsRow (k : IntKind) (w : World) (a : Option Addr) (len cap : Nat) (zs : List Int) : Prop :=
  (a = none ∧ len = 0 ∧ cap = 0 ∧ zs = []) ∨
  ∃ x, a = some x ∧ len ≤ cap ∧ cap ≤ maxLen ∧ zs.length = cap ∧ (∀ i, i < zs.length → w.cell? (x.add i) = some (.int k (zs.getD i 0))) ∧ ∀ n ∈ zs, (Lit.int k n).wf = true

theorem isRow_row {w : World} {a : Option Addr} {len cap : Nat} {zs : List Int} (h : IsRow .i64 w a len cap zs) (hbd : ∀ n, (Lit.int .i64 n).wf = true → -9223372036854775808 ≤ n ∧ n ≤ 9223372036854775807) :
    ∃ ys : List Int, len = ys.length ∧ Row w a ys ∧ Bnd ys ∧ ys.length ≤ maxLen := by
  rcases h with ⟨rfl, rfl, rfl, rfl⟩ | ⟨x, rfl, hl, hm, hz, hcell, hwz⟩
  · exact ⟨[], rfl, .inl rfl, (fun z hz => by cases hz), Nat.zero_le _⟩
  · have hlt : (zs.take len).length = len := by simp; omega
    refine ⟨zs.take len, hlt.symm, ?_, fun z hz => hbd z (hwz z (List.mem_of_mem_take hz)), by rw [hlt]; omega⟩
    by_cases h0 : len = 0
    · subst h0; exact .inl rfl
    · obtain ⟨b, off, spot⟩ := x
      have hc0 := hcell 0 (by omega)
      obtain rfl : spot = none := by simpa [Addr.add] using World.cell?_spot hc0
      have hb : b < w.heap.size := by
        rcases Nat.lt_or_ge b w.heap.size with h | h
        · exact h
        · simp [World.cell?, Addr.add, h] at hc0
      refine .inr ⟨b, off, rfl, hb, fun i hi => ?_⟩
      have := hcell i (by omega)
      rw [show (⟨b, off, none⟩ : Addr).add i = ⟨b, off + i, none⟩ by simp only [Addr.add]; split <;> simp_all] at this
      rw [hlt] at hi
      rw [this, List.getElem?_take_of_lt hi, List.getD_eq_getElem?_getD]

set_option maxHeartbeats 1000000 in
theorem gathers_long (a c : Option Addr) (len cap len' cap' : Nat) (w : World) (hs : Signs w) (hm : len ≤ maxLen) (hm' : len' ≤ maxLen) (h : 200 < len ∨ (len ≤ 200 ∧ 200 < len')) :
    Calls Tryd.prog 5 #[.slice a len cap, .slice c len' cap'] w (TrueRet w) := by
  unfold maxLen at hm hm'
  rcases h with h | ⟨h, h'⟩
  · have h1 : decide (200 < len) = true := by simpa using h
    go_enter Tryd.func5, Tryd.ntmps5
    go_wp2_with fail
    refine (head_calls _ hs).mono ?_
    rintro e w1 ⟨rfl, hb1⟩
    go_wp2_with fail
    go_ret
    exact ⟨rfl, hb1⟩
  · have h1 : decide (200 < len) = false := by simp; omega
    have h2 : decide (200 < len') = true := by simpa using h'
    go_enter Tryd.func5, Tryd.ntmps5
    go_wp2_with fail
    refine (head_calls _ hs).mono ?_
    rintro e w1 ⟨rfl, hb1⟩
    go_wp2_with fail
    go_ret
    exact ⟨rfl, hb1⟩

set_option maxHeartbeats 1000000 in
theorem gathers_some (a c : Option Addr) (cap cap' : Nat) (zs sel : List Int) (w : World) (hs : Signs w) (hR : Row w a zs) (hS : Row w c sel) (hlen : zs.length ≤ 200) (hlen' : sel.length ≤ 200) :
    Calls Tryd.prog 5 #[.slice a zs.length cap, .slice c sel.length cap'] w (TrueRet w) := by
  obtain ⟨i0, hi, hz0, hz1, hz2⟩ := info_parts info2
  have I := Lib.hid hi
  have Z0 := Lib.hid hz0
  have Z1 := Lib.hid hz1
  have Z2 := Lib.hid hz2
  clear hi hz0 hz1 hz2
  have t1 : decide (200 < zs.length) = false := by simp; omega
  have t2 : decide (200 < sel.length) = false := by simp; omega
  obtain ⟨B, hB⟩ : ∃ B, w.heap.size = B := ⟨_, rfl⟩
  have HB := Lib.hid hB
  clear hB
  go_enter Tryd.func5, Tryd.ntmps5
  go_wp2_with fail
  refine (head_calls _ hs).mono ?_
  rintro e w0 ⟨rfl, hb0⟩
  rw [HB.out] at hb0
  have hB0 : B ≤ w0.heap.size := by have := hb0.size; rw [HB.out] at this; exact this
  go_wp2_with fail
  go_loopw [5, 21] (fun v i wr => ∃ k : Nat, k ≤ sel.length ∧ i = .int .i64 k ∧ wr.ownsRow B 2 1 v (gath zs (sel.take k)).length ((gath zs (sel.take k)).map (Value.int .i64)) ∧ Below B w wr)
    (fun _ i _ => sel.length - (intOf i).toNat)
  case atStart => exact ⟨0, Nat.zero_le _, rfl, World.ownsRow_made w0 #[] 0 hB0 (by decide) rfl, hb0.alloc hB0 _⟩
  case round =>
    clear hb0 hB0
    obtain ⟨k, hk, rfl, hown, hbel⟩ := hrel
    have hBr : B ≤ wr.heap.size := by have := hbel.size; rw [HB.out] at this; exact this
    have hsl : (gath zs (sel.take k)).length ≤ k := by have h1 := gath_le zs (sel.take k); rw [List.length_take_of_le hk] at h1; exact h1
    by_cases hlt : k < sel.length
    · obtain ⟨b, off, rfl, hb, hcell⟩ := (hS.belowB HB.out hbel).at hlt
      by_cases hin : 0 ≤ sel[k]?.getD 0 ∧ sel[k]?.getD 0 < zs.length
      · have S := Lib.hid (gath_yes hlt hin.1 hin.2)
        obtain ⟨j, hj⟩ : ∃ j : Nat, sel[k]?.getD 0 = (j : Int) := ⟨(sel[k]?.getD 0).toNat, by omega⟩
        have hjl : j < zs.length := by omega
        obtain ⟨b2, off2, rfl, hb2, hcell2⟩ := (hR.belowB HB.out hbel).at hjl
        rw [hj] at hcell hin
        have HJ := Lib.hid hj
        clear hj hin
        obtain ⟨y, hy⟩ : ∃ y, zs[j]?.getD 0 = y := ⟨_, rfl⟩
        rw [hy] at hcell2
        have HY := Lib.hid hy
        clear hy
        obtain ⟨xs, hxs⟩ : ∃ xs, gath zs (sel.take k) = xs := ⟨_, rfl⟩
        rw [hxs] at hown hsl
        have HX := Lib.hid hxs
        clear hxs
        go_wp2_with (first | (at_builtin; refine wpList_append_own _ rfl _ _ 28 rfl B 2 i0 (.int .i64 0) 1 8 Tryd.underlying28 I.out Z0.out Z1.out Z2.out rfl (by decide) _ _ _ rfl (hown.alloc _) ⟨wr.heap.size, 0, none⟩ 1 1 [.int .i64 y] rfl rfl ?c1 ?c2 ?c3 ?c4 ?c5 ?_))
        case c1 =>
          intro j u hj
          match j, hj with
          | 0, hj => simp at hj; subst hj; simp [Addr.add]
        case c2 => intro u hu; simp at hu; subst hu; rfl
        case c3 => unfold maxLen; omega
        case c4 => omega
        case c5 => simp; omega
        intro v' w1 hown' hgrow _
        have R := app_step hBr hbel hown hown' hgrow
        clear hown' hgrow hown hcell hcell2
        go_wp2_with fail
        go_roundw
        case rel => exact ⟨k + 1, by omega, by go_num, by rw [S.out, HX.out, HJ.out, Int.toNat_natCast, HY.out]; exact R.1, R.2⟩
        case measure => simp [intOf]; omega
      · have S := Lib.hid (gath_no hlt hin)
        generalize sel[k]?.getD 0 = z at *
        by_cases h0 : 0 ≤ z
        · have h1 : decide (0 ≤ z) = true := by simpa using h0
          have h2 : decide (z < (zs.length : Int)) = false := by simp; omega
          clear hin
          go_wp2_with fail
          go_roundw
          case rel => exact ⟨k + 1, by omega, by go_num, by rw [S.out]; exact hown, hbel⟩
          case measure => simp [intOf]; omega
        · have h1 : decide (0 ≤ z) = false := by simpa using h0
          clear hin
          go_wp2_with fail
          go_roundw
          case rel => exact ⟨k + 1, by omega, by go_num, by rw [S.out]; exact hown, hbel⟩
          case measure => simp [intOf]; omega
    · obtain rfl : k = sel.length := by omega
      rw [List.take_length] at hown hsl
      obtain ⟨a1, c1, rfl, hrow⟩ := row_of_owns hown
      have hR1 := hR.belowB HB.out hbel
      have hS1 := hS.belowB HB.out hbel
      clear hown
      go_wp2_with fail
      refine (gather_calls _ _ _ _ zs sel _ hR1 hS1 (by omega) (by omega)).mono ?_
      rintro e w2 ⟨a2, c2, rfl, hrow2, hb2⟩
      have hrow1 := hrow.below hb2
      have hbel2 : Below B w w2 := hbel.trans (hb2.mono hBr)
      clear hb2 hbel hR1 hS1 hrow
      go_wp2_with fail
      refine (same_calls _ _ _ _ _ _ hrow2 hrow1 (by omega)).mono ?_
      rintro e w3 ⟨rfl, hb3⟩
      have hbel3 : Below B w w3 := hbel2.trans (hb3.mono (by have := hbel2.size; rw [HB.out] at this; exact this))
      go_wp2_with fail
      go_ret
      exact ⟨rfl, by rw [HB.out]; exact hbel3⟩

theorem gathers_walk (a c : Option Addr) (len cap len' cap' : Nat) (zs ys : List Int) (w : World) (hs : Signs w) (h : IsRow .i64 w a len cap zs) (h' : IsRow .i64 w c len' cap' ys) (hbd : ∀ n, (Lit.int .i64 n).wf = true → -9223372036854775808 ≤ n ∧ n ≤ 9223372036854775807) :
    Calls Tryd.prog 5 #[.slice a len cap, .slice c len' cap'] w (TrueRet w) := by
  obtain ⟨us, rfl, hR, _, hm⟩ := isRow_row h hbd
  obtain ⟨bs, rfl, hS, _, hm'⟩ := isRow_row h' hbd
  by_cases h1 : 200 < us.length
  · exact gathers_long _ _ _ _ _ _ _ hs hm hm' (.inl h1)
  · by_cases h2 : 200 < bs.length
    · exact gathers_long _ _ _ _ _ _ _ hs hm hm' (.inr ⟨by omega, h2⟩)
    · exact gathers_some _ _ _ _ us bs _ hs hR hS (by omega) (by omega)
end Go.Proofs.YtplckcnmpnnkgaaDoor
