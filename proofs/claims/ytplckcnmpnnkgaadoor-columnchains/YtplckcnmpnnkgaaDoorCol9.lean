/- The statement ColumnChains, walked. -/
import Derived.Test.YtplckcnmpnnkgaaDoorCol5
namespace Go.Proofs.YtplckcnmpnnkgaaDoor
open Go.RowKit
set_option linter.unusedVariables false
set_option linter.unusedSimpArgs false

set_option maxHeartbeats 2000000 in
theorem chains_some (a c d : Option Addr) (cap cap' cap2 : Nat) (zs sel more : List Int) (w : World) (hs : Signs w) (hR : Row w a zs) (hS : Row w c sel) (hM : Row w d more) (hlen : zs.length ≤ 200) (hlen' : sel.length ≤ 200) (hlen2 : more.length ≤ 200) :
    Calls Tryd.prog 9 #[.slice a zs.length cap, .slice c sel.length cap', .slice d more.length cap2] w (TrueRet w) := by
  obtain ⟨i0, hi, hz0, hz1, hz2⟩ := info_parts info3
  have I := Lib.hid hi
  have Z0 := Lib.hid hz0
  have Z1 := Lib.hid hz1
  have Z2 := Lib.hid hz2
  clear hi hz0 hz1 hz2
  have t1 : decide (200 < zs.length) = false := by simp; omega
  have t2 : decide (200 < sel.length) = false := by simp; omega
  have t3 : decide (200 < more.length) = false := by simp; omega
  obtain ⟨B, hB⟩ : ∃ B, w.heap.size = B := ⟨_, rfl⟩
  have HB := Lib.hid hB
  clear hB
  go_enter Tryd.func9, Tryd.ntmps9
  go_wp2_with fail
  refine (head_calls _ hs).mono ?_
  rintro e w0 ⟨rfl, hb0⟩
  have hR0 := hR.below hb0
  have hS0 := hS.below hb0
  have hM0 := hM.below hb0
  clear hR hS hM hs
  rw [HB.out] at hb0
  have hB0 : B ≤ w0.heap.size := by have := hb0.size; rw [HB.out] at this; exact this
  go_wp2_with fail
  refine (gather_calls _ _ _ _ zs sel _ hR0 hS0 (by omega) (by omega)).mono ?_
  rintro e w1 ⟨a1, c1, rfl, hr1, hb1⟩
  have hR := hR0.below hb1
  have hS := hS0.below hb1
  have hM := hM0.below hb1
  have hbw : Below B w w1 := hb0.trans (hb1.mono hB0)
  clear hR0 hS0 hM0 hb0 hb1 hB0
  have hgl : (gath zs sel).length ≤ 200 := Nat.le_trans (gath_le _ _) hlen'
  have HGL : Hid ((gath zs sel).length = (there zs.length sel).length) := Lib.hid (by rw [gath_there, List.length_map])
  obtain ⟨C, hC⟩ : ∃ C, w1.heap.size = C := ⟨_, rfl⟩
  have hBC : B ≤ C := by rw [← hC]; have := hbw.size; rw [HB.out] at this; exact this
  have HC := Lib.hid hC
  clear hC
  go_wp2_with fail
  go_loopw [8, 35] (fun v i wr => ∃ k : Nat, k ≤ sel.length ∧ i = .int .i64 k ∧ wr.ownsRow C 3 1 v (there zs.length (sel.take k)).length ((there zs.length (sel.take k)).map (Value.int .i64)) ∧ Below C w1 wr)
    (fun _ i _ => sel.length - (intOf i).toNat)
  case atStart => exact ⟨0, Nat.zero_le _, rfl, World.ownsRow_made w1 #[] 0 (Nat.le_of_eq HC.out.symm) (by decide) rfl, (Below.refl _ _).alloc (Nat.le_of_eq HC.out.symm) _⟩
  case round =>
    obtain ⟨k, hk, rfl, hown, hbel⟩ := hrel
    have hBr : C ≤ wr.heap.size := by have := hbel.size; rw [HC.out] at this; exact this
    have hsl : (there zs.length (sel.take k)).length ≤ k := by have h1 := there_le zs.length (sel.take k); rw [List.length_take_of_le hk] at h1; exact h1
    by_cases hlt : k < sel.length
    · obtain ⟨b, off, rfl, hb, hcell⟩ := (hS.belowB HC.out hbel).at hlt
      by_cases hin : 0 ≤ sel[k]?.getD 0 ∧ sel[k]?.getD 0 < zs.length
      · have S := Lib.hid (there_yes hlt hin)
        obtain ⟨y, hy⟩ : ∃ y, sel[k]?.getD 0 = y := ⟨_, rfl⟩
        rw [hy] at hcell hin
        have HY := Lib.hid hy
        obtain ⟨hi1, hi2⟩ := hin
        clear hy
        obtain ⟨xs, hxs⟩ : ∃ xs, there zs.length (sel.take k) = xs := ⟨_, rfl⟩
        rw [hxs] at hown hsl
        have HX := Lib.hid hxs
        clear hxs
        go_wp2_with (first | (at_builtin; refine wpList_append_own _ rfl _ _ 26 rfl C 3 i0 (.int .i64 0) 1 8 Tryd.underlying26 I.out Z0.out Z1.out Z2.out rfl (by decide) _ _ _ rfl (hown.alloc _) ⟨wr.heap.size, 0, none⟩ 1 1 [.int .i64 y] rfl rfl ?c1 ?c2 ?c3 ?c4 ?c5 ?_))
        case c1 =>
          intro j u hj
          match j, hj with
          | 0, hj => simp at hj; subst hj; simp [Addr.add]
        case c2 => intro u hu; simp at hu; subst hu; rfl
        case c3 => unfold maxLen; omega
        case c4 => omega
        case c5 => simp; omega
        intro v' w2 hown' hgrow _
        have R := app_step hBr hbel hown hown' hgrow
        clear hown' hgrow hown hcell
        go_wp2_with fail
        go_roundw
        case rel => exact ⟨k + 1, by omega, by go_num, by rw [S.out, HX.out, HY.out]; exact R.1, R.2⟩
        case measure => simp [intOf]; omega
      · have S := Lib.hid (there_no hlt hin)
        generalize sel[k]?.getD 0 = z at *
        by_cases h0 : 0 ≤ z
        · have h1 : decide (0 ≤ z) = true := by simpa using h0
          have h2 : decide (z < (zs.length : Int)) = false := by simp; omega
          clear hin
          go_wp2_with fail
          go_roundw
          case rel => exact ⟨k + 1, by omega, by go_num, by rw [S.out]; exact hown, hbel⟩
          case measure => simp [intOf]; omega
        · have h1 : decide (0 ≤ z) = false := by simpa using h0
          clear hin
          go_wp2_with fail
          go_roundw
          case rel => exact ⟨k + 1, by omega, by go_num, by rw [S.out]; exact hown, hbel⟩
          case measure => simp [intOf]; omega
    · obtain rfl : k = sel.length := by omega
      rw [List.take_length] at hown hsl
      obtain ⟨a2, c2, rfl, hT⟩ := row_of_owns hown
      have hR1 := hR.belowB HC.out hbel
      have hM1 := hM.belowB HC.out hbel
      have hF1 := hr1.belowB HC.out hbel
      have hbw1 : Below B w wr := hbw.trans (hbel.mono hBC)
      clear hown hR hM hr1 hbw hbel hS
      obtain ⟨th, hth⟩ : ∃ th, there zs.length sel = th := ⟨_, rfl⟩
      rw [hth] at hT hsl ⊢
      have HT := Lib.hid hth
      clear hth
      obtain ⟨wm, rfl⟩ : ∃ x, x = wr := ⟨wr, rfl⟩
      obtain ⟨D, hD⟩ : ∃ D, wm.heap.size = D := ⟨_, rfl⟩
      have hBD : B ≤ D := by rw [← hD]; have := hbw1.size; rw [HB.out] at this; exact this
      have HD := Lib.hid hD
      clear hD hBr
      go_wp2_with fail
      go_loopw [11, 55] (fun v i wq => ∃ k : Nat, k ≤ more.length ∧ i = .int .i64 k ∧ wq.ownsRow D 3 1 v (gath th (more.take k)).length ((gath th (more.take k)).map (Value.int .i64)) ∧ Below D wm wq)
        (fun _ i _ => more.length - (intOf i).toNat)
      case atStart => exact ⟨0, Nat.zero_le _, rfl, World.ownsRow_made wm #[] 0 (Nat.le_of_eq HD.out.symm) (by decide) rfl, (Below.refl _ _).alloc (Nat.le_of_eq HD.out.symm) _⟩
      case round =>
        obtain ⟨k, hk, rfl, hown, hbel⟩ := hrel
        have hBr : D ≤ wr.heap.size := by have := hbel.size; rw [HD.out] at this; exact this
        have hsl2 : (gath th (more.take k)).length ≤ k := by have h1 := gath_le th (more.take k); rw [List.length_take_of_le hk] at h1; exact h1
        by_cases hlt : k < more.length
        · obtain ⟨b, off, rfl, hb, hcell⟩ := (hM1.belowB HD.out hbel).at hlt
          by_cases hin : 0 ≤ more[k]?.getD 0 ∧ more[k]?.getD 0 < th.length
          · have S := Lib.hid (gath_yes hlt hin.1 hin.2)
            obtain ⟨j, hj⟩ : ∃ j : Nat, more[k]?.getD 0 = (j : Int) := ⟨(more[k]?.getD 0).toNat, by omega⟩
            have hjl : j < th.length := by omega
            obtain ⟨b2, off2, rfl, hb2, hcell2⟩ := (hT.belowB HD.out hbel).at hjl
            rw [hj] at hcell hin
            have HJ := Lib.hid hj
            clear hj hin
            obtain ⟨y, hy⟩ : ∃ y, th[j]?.getD 0 = y := ⟨_, rfl⟩
            rw [hy] at hcell2
            have HY := Lib.hid hy
            clear hy
            obtain ⟨xs, hxs⟩ : ∃ xs, gath th (more.take k) = xs := ⟨_, rfl⟩
            rw [hxs] at hown hsl2
            have HX := Lib.hid hxs
            clear hxs
            go_wp2_with (first | (at_builtin; refine wpList_append_own _ rfl _ _ 26 rfl D 3 i0 (.int .i64 0) 1 8 Tryd.underlying26 I.out Z0.out Z1.out Z2.out rfl (by decide) _ _ _ rfl (hown.alloc _) ⟨wr.heap.size, 0, none⟩ 1 1 [.int .i64 y] rfl rfl ?d1 ?d2 ?d3 ?d4 ?d5 ?_))
            case d1 =>
              intro j u hj
              match j, hj with
              | 0, hj => simp at hj; subst hj; simp [Addr.add]
            case d2 => intro u hu; simp at hu; subst hu; rfl
            case d3 => unfold maxLen; omega
            case d4 => omega
            case d5 => simp; omega
            intro v' w2 hown' hgrow _
            have R := app_step hBr hbel hown hown' hgrow
            clear hown' hgrow hown hcell hcell2
            go_wp2_with fail
            go_roundw
            case rel => exact ⟨k + 1, by omega, by go_num, by rw [S.out, HX.out, HJ.out, Int.toNat_natCast, HY.out]; exact R.1, R.2⟩
            case measure => simp [intOf]; omega
          · have S := Lib.hid (gath_no hlt hin)
            generalize more[k]?.getD 0 = z at *
            by_cases h0 : 0 ≤ z
            · have h1 : decide (0 ≤ z) = true := by simpa using h0
              have h2 : decide (z < (th.length : Int)) = false := by simp; omega
              clear hin
              go_wp2_with fail
              go_roundw
              case rel => exact ⟨k + 1, by omega, by go_num, by rw [S.out]; exact hown, hbel⟩
              case measure => simp [intOf]; omega
            · have h1 : decide (0 ≤ z) = false := by simpa using h0
              clear hin
              go_wp2_with fail
              go_roundw
              case rel => exact ⟨k + 1, by omega, by go_num, by rw [S.out]; exact hown, hbel⟩
              case measure => simp [intOf]; omega
        · obtain rfl : k = more.length := by omega
          rw [List.take_length] at hown hsl2
          obtain ⟨a3, c3, rfl, hBo⟩ := row_of_owns hown
          have hR2 := hR1.belowB HD.out hbel
          have hM2 := hM1.belowB HD.out hbel
          have hF2 := hF1.belowB HD.out hbel
          have hbw2 : Below B w wr := hbw1.trans (hbel.mono hBD)
          have hB2 : B ≤ wr.heap.size := Nat.le_trans hBD hBr
          clear hown hR1 hM1 hF1 hbw1 hbel hT
          go_wp2_with fail
          refine (gather_calls _ _ _ _ _ more _ hF2 hM2 (by omega) (by omega)).mono ?_
          rintro e w4 ⟨a4, c4, rfl, hr4, hb4⟩
          have hR4 := hR2.below hb4
          have hBo4 := hBo.below hb4
          have hbw4 : Below B w w4 := hbw2.trans (hb4.mono hB2)
          have hB4 : B ≤ w4.heap.size := Nat.le_trans hB2 hb4.size
          clear hR2 hBo hbw2 hb4 hF2 hM2
          go_wp2_with fail
          refine (gather_calls _ _ _ _ zs _ _ hR4 hBo4 (by omega) (by omega)).mono ?_
          rintro e w5 ⟨a5, c5, rfl, hr5, hb5⟩
          have hr45 := hr4.below hb5
          have hbw5 : Below B w w5 := hbw4.trans (hb5.mono hB4)
          have hB5 : B ≤ w5.heap.size := Nat.le_trans hB4 hb5.size
          clear hR4 hBo4 hbw4 hb5 hr4
          have hch : gath zs (gath th more) = gath (gath zs sel) more := by rw [← HT.out]; exact (gath_chain zs sel more).symm
          rw [hch] at hr5 ⊢
          have hl5 : (gath (gath zs sel) more).length ≤ 1000 := by have := gath_le (gath zs sel) more; omega
          clear hch
          go_wp2_with fail
          refine (same_calls _ _ _ _ _ _ hr45 hr5 hl5).mono ?_
          rintro e w6 ⟨rfl, hb6⟩
          have hbw6 : Below B w w6 := hbw5.trans (hb6.mono hB5)
          clear hb6 hbw5
          have hlast : ((gath zs sel).length == th.length) = true := by rw [HGL.out, HT.out]; simp
          have hlast2 : (gath zs sel).length = th.length := by rw [HGL.out, HT.out]
          go_wp2_with fail
          go_ret
          exact ⟨rfl, by rw [HB.out]; exact hbw6⟩

set_option maxHeartbeats 1000000 in
theorem chains_long (a c d : Option Addr) (len cap len' cap' len2 cap2 : Nat) (w : World) (hs : Signs w) (hm : len ≤ maxLen) (hm' : len' ≤ maxLen) (hm2 : len2 ≤ maxLen) (h : 200 < len ∨ (len ≤ 200 ∧ 200 < len') ∨ (len ≤ 200 ∧ len' ≤ 200 ∧ 200 < len2)) :
    Calls Tryd.prog 9 #[.slice a len cap, .slice c len' cap', .slice d len2 cap2] w (TrueRet w) := by
  unfold maxLen at hm hm' hm2
  rcases h with h | ⟨h, h'⟩ | ⟨h, h', h2⟩
  · have h1 : decide (200 < len) = true := by simpa using h
    go_enter Tryd.func9, Tryd.ntmps9
    go_wp2_with fail
    refine (head_calls _ hs).mono ?_
    rintro e w1 ⟨rfl, hb1⟩
    go_wp2_with fail
    go_ret
    exact ⟨rfl, hb1⟩
  · have h1 : decide (200 < len) = false := by simp; omega
    have h2 : decide (200 < len') = true := by simpa using h'
    go_enter Tryd.func9, Tryd.ntmps9
    go_wp2_with fail
    refine (head_calls _ hs).mono ?_
    rintro e w1 ⟨rfl, hb1⟩
    go_wp2_with fail
    go_ret
    exact ⟨rfl, hb1⟩
  · have h1 : decide (200 < len) = false := by simp; omega
    have h3 : decide (200 < len') = false := by simp; omega
    have h4 : decide (200 < len2) = true := by simpa using h2
    go_enter Tryd.func9, Tryd.ntmps9
    go_wp2_with fail
    refine (head_calls _ hs).mono ?_
    rintro e w1 ⟨rfl, hb1⟩
    go_wp2_with fail
    go_ret
    exact ⟨rfl, hb1⟩

theorem chains_walk (a c d : Option Addr) (len cap len' cap' len2 cap2 : Nat) (zs ys xs : List Int) (w : World) (hs : Signs w) (h : IsRow .i64 w a len cap zs) (h' : IsRow .i64 w c len' cap' ys) (h2 : IsRow .i64 w d len2 cap2 xs) (hbd : ∀ n, (Lit.int .i64 n).wf = true → -9223372036854775808 ≤ n ∧ n ≤ 9223372036854775807) :
    Calls Tryd.prog 9 #[.slice a len cap, .slice c len' cap', .slice d len2 cap2] w (TrueRet w) := by
  obtain ⟨us, rfl, hR, _, hm⟩ := isRow_row h hbd
  obtain ⟨vs, rfl, hS, _, hm'⟩ := isRow_row h' hbd
  obtain ⟨ts, rfl, hT, _, hm2⟩ := isRow_row h2 hbd
  by_cases h1 : 200 < us.length
  · exact chains_long _ _ _ _ _ _ _ _ _ _ hs hm hm' hm2 (.inl h1)
  · by_cases h2 : 200 < vs.length
    · exact chains_long _ _ _ _ _ _ _ _ _ _ hs hm hm' hm2 (.inr (.inl ⟨by omega, h2⟩))
    · by_cases h3 : 200 < ts.length
      · exact chains_long _ _ _ _ _ _ _ _ _ _ hs hm hm' hm2 (.inr (.inr ⟨by omega, by omega, h3⟩))
      · exact chains_some _ _ _ _ _ _ us vs ts _ hs hR hS hT (by omega) (by omega) (by omega)
end Go.Proofs.YtplckcnmpnnkgaaDoor
