/- The statements ColumnAnds, ColumnParts, ColumnChains, walked. -/
import Derived.Test.YtplckcnmpnnkgaaDoorCol5
namespace Go.Proofs.YtplckcnmpnnkgaaDoor
open Go.RowKit
set_option linter.unusedVariables false
set_option linter.unusedSimpArgs false

theorem lawHolds_is {o a b : Int} {r : Bool} (w : World) (h0 : 0 ≤ o) (h5 : o ≤ 5) (h : holdsB o a b = r) : Calls Tryd.prog 14 #[.int .i64 o, .int .i64 a, .int .i64 b] w fun e w' => e = .returned (.bool r) ∧ Below w.heap.size w w' :=
  h ▸ lawHolds_calls o a b w h0 h5

/-- int(uint(n) % 6) is one of 0 .. 5. -/
theorem idx6 (n : Int) : 0 ≤ wrap64 ((IntKind.u64.wrap n).tmod 6) ∧ wrap64 ((IntKind.u64.wrap n).tmod 6) ≤ 5 := by
  rw [IntKind.wrap_u64, Int.tmod_eq_emod_of_nonneg (by omega)]; unfold wrap64; omega
theorem idx5 (n : Int) : 0 ≤ wrap64 ((IntKind.u64.wrap n).tmod 5) ∧ wrap64 ((IntKind.u64.wrap n).tmod 5) ≤ 4 := by
  rw [IntKind.wrap_u64, Int.tmod_eq_emod_of_nonneg (by omega)]; unfold wrap64; omega

set_option maxHeartbeats 1000000 in
theorem ands_some (n m x y : Int) (a : Option Addr) (cap : Nat) (zs : List Int) (w : World) (hs : Signs w) (hR : Row w a zs) (hlen : zs.length ≤ 200) :
    Calls Tryd.prog 6 #[.int .i64 n, .int .i64 m, .slice a zs.length cap, .int .i64 x, .int .i64 y] w (TrueRet w) := by
  have t1 : decide (200 < zs.length) = false := by simp; omega
  obtain ⟨B, hB⟩ : ∃ B, w.heap.size = B := ⟨_, rfl⟩
  have HB := Lib.hid hB
  clear hB
  obtain ⟨N, hN, hN0, hN5⟩ : ∃ N : Int, wrap64 ((IntKind.u64.wrap n).tmod 6) = N ∧ 0 ≤ N ∧ N ≤ 5 := ⟨_, rfl, idx6 n⟩
  obtain ⟨M, hM, hM0, hM5⟩ : ∃ M : Int, wrap64 ((IntKind.u64.wrap m).tmod 6) = M ∧ 0 ≤ M ∧ M ≤ 5 := ⟨_, rfl, idx6 m⟩
  go_enter Tryd.func6, Tryd.ntmps6
  go_wp2_with fail
  refine (head_calls _ hs).mono ?_
  rintro e w0 ⟨rfl, hb0⟩
  rw [HB.out] at hb0
  have hR0 := hR.belowB HB.out hb0
  have hB0 : B ≤ w0.heap.size := by have := hb0.size; rw [HB.out] at this; exact this
  go_wp2_with fail
  refine (where_calls N x _ _ zs _ hR0 (by omega)).mono ?_
  rintro e w1 ⟨a1, c1, rfl, hr1, hb1⟩
  have hR1 := hR0.below hb1
  have hbel1 : Below B w w1 := hb0.trans (hb1.mono hB0)
  clear hb0 hb1 hR0 hB0 hR
  have hB1 : B ≤ w1.heap.size := by have := hbel1.size; rw [HB.out] at this; exact this
  go_wp2_with fail
  refine (where_calls M y _ _ zs _ hR1 (by omega)).mono ?_
  clear hN hM
  rintro e w2 ⟨a2, c2, rfl, hr2, hb2⟩
  have hR2 := hR1.below hb2
  have hr12 := hr1.below hb2
  have hbel2 : Below B w w2 := hbel1.trans (hb2.mono hB1)
  clear hb2 hR1 hr1 hB1 hbel1
  have hB2 : B ≤ w2.heap.size := by have := hbel2.size; rw [HB.out] at this; exact this
  have l1 : (whereL N zs x).length ≤ 200 := Nat.le_trans (selTo_le _ _) hlen
  have l2 : (whereL M zs y).length ≤ 200 := Nat.le_trans (selTo_le _ _) hlen
  go_wp2_with fail
  refine (and_calls _ _ _ _ _ _ _ hr12 hr2 (by omega) (by omega)).mono ?_
  rintro e w3 ⟨a3, c3, rfl, hr3, hb3⟩
  have hR3 := hR2.below hb3
  have hbel3 : Below B w w3 := hbel2.trans (hb3.mono hB2)
  clear hb3 hR2 hr12 hr2 hB2 hbel2
  have hB3 : B ≤ w3.heap.size := by have := hbel3.size; rw [HB.out] at this; exact this
  obtain ⟨p, hp⟩ : ∃ p : Nat → Bool, p = fun i => holdsB N (zs[i]?.getD 0) x && holdsB M (zs[i]?.getD 0) y := ⟨_, rfl⟩
  have HP := Lib.hid hp
  have hG : andL (whereL N zs x) (whereL M zs y) = selTo p zs.length := by rw [hp]; exact and_sel _ _ _
  rw [hG] at hr3 ⊢
  clear hp hG l1 l2
  obtain ⟨G, hG⟩ : ∃ G, selTo p zs.length = G := ⟨_, rfl⟩
  have hGl : G.length ≤ 200 := by rw [← hG]; exact Nat.le_trans (selTo_le _ _) hlen
  rw [hG] at hr3 ⊢
  have HG := Lib.hid hG
  clear hG
  go_wp2_with fail
  go_loopw [12, 38] (fun kk i wr => ∃ k : Nat, k ≤ zs.length ∧ i = .int .i64 k ∧ kk = .int .i64 (selTo p k).length ∧ Below w3.heap.size w3 wr)
    (fun _ i _ => zs.length - (intOf i).toNat)
  case atStart => exact ⟨0, Nat.zero_le _, rfl, rfl, Below.refl _ _⟩
  case round =>
    obtain ⟨k, hk, rfl, rfl, hbel⟩ := hrel
    by_cases hlt : k < zs.length
    · obtain ⟨b, off, rfl, hb, hcell⟩ := (hR3.below hbel).at hlt
      have HPk : Hid (p k = (holdsB N (zs[k]?.getD 0) x && holdsB M (zs[k]?.getD 0) y)) := by rw [HP.out]; exact Lib.hid rfl
      generalize zs[k]?.getD 0 = z at *
      by_cases h1 : holdsB N z x = true
      · have H1 := Lib.hid h1
        by_cases h2 : holdsB M z y = true
        · have hpk : p k = true := by rw [HPk.out, h1, h2]; rfl
          have S := Lib.hid (selTo_yes hpk)
          have A := selTo_at hlt hpk
          have H2 := Lib.hid h2
          clear h1 h2 hpk
          rw [HG.out] at A
          obtain ⟨j, hj⟩ : ∃ j, (selTo p k).length = j := ⟨_, rfl⟩
          rw [hj] at A ⊢
          obtain ⟨b3, off3, rfl, hb3, hc3⟩ := (hr3.below hbel).at A.1
          rw [A.2] at hc3
          have hjl := A.1
          have HJ := Lib.hid hj
          clear A hj
          have hgt : decide (G.length ≤ j) = false := by simp; omega
          go_wp2_with fail
          with_reducible refine (lawHolds_is _ hN0 hN5 H1.out).mono ?_
          rintro e w4 ⟨rfl, hb4⟩
          have d1 : w4.cell? ⟨b, off + k, none⟩ = some (.int .i64 z) := (hb4.cell (p := ⟨b, off + k, none⟩) hb).trans hcell
          have d2 : w4.cell? ⟨b3, off3 + j, none⟩ = some (.int .i64 k) := (hb4.cell (p := ⟨b3, off3 + j, none⟩) hb3).trans hc3
          have hbel4 := hbel.trans (hb4.mono hbel.size)
          have hbb : b < w4.heap.size := Nat.lt_of_lt_of_le hb hb4.size
          have hbb3 : b3 < w4.heap.size := Nat.lt_of_lt_of_le hb3 hb4.size
          clear hcell hc3 hbel hb4 hb hb3
          go_wp2_with fail
          with_reducible refine (lawHolds_is _ hM0 hM5 H2.out).mono ?_
          rintro e w5 ⟨rfl, hb5⟩
          have d3 : w5.cell? ⟨b3, off3 + j, none⟩ = some (.int .i64 k) := (hb5.cell (p := ⟨b3, off3 + j, none⟩) hbb3).trans d2
          have hbel5 := hbel4.trans (hb5.mono hbel4.size)
          clear d1 d2 hbel4 hb5 hbb hbb3
          go_wp2_with fail
          go_roundw
          case rel => exact ⟨k + 1, by omega, by go_num, by rw [S.out, List.length_append, HJ.out]; go_num, hbel5⟩
          case measure => simp [intOf]; omega
        · have h2' : holdsB M z y = false := by simpa using h2
          have hpk : p k = false := by rw [HPk.out, h1, h2']; rfl
          have S := Lib.hid (selTo_no hpk)
          have H2 := Lib.hid h2'
          clear h1 h2 h2' hpk
          go_wp2_with fail
          with_reducible refine (lawHolds_is _ hN0 hN5 H1.out).mono ?_
          rintro e w4 ⟨rfl, hb4⟩
          have d1 : w4.cell? ⟨b, off + k, none⟩ = some (.int .i64 z) := (hb4.cell (p := ⟨b, off + k, none⟩) hb).trans hcell
          have hbel4 := hbel.trans (hb4.mono hbel.size)
          clear hcell hbel hb4
          go_wp2_with fail
          with_reducible refine (lawHolds_is _ hM0 hM5 H2.out).mono ?_
          rintro e w5 ⟨rfl, hb5⟩
          have hbel5 := hbel4.trans (hb5.mono hbel4.size)
          clear d1 hbel4 hb5
          go_wp2_with fail
          go_roundw
          case rel => exact ⟨k + 1, by omega, by go_num, by rw [S.out], hbel5⟩
          case measure => simp [intOf]; omega
      · have h1' : holdsB N z x = false := by simpa using h1
        have hpk : p k = false := by rw [HPk.out, h1']; rfl
        have S := Lib.hid (selTo_no hpk)
        have H1 := Lib.hid h1'
        clear h1 h1' hpk
        go_wp2_with fail
        with_reducible refine (lawHolds_is _ hN0 hN5 H1.out).mono ?_
        rintro e w4 ⟨rfl, hb4⟩
        have hbel4 := hbel.trans (hb4.mono hbel.size)
        clear hcell hbel hb4
        go_wp2_with fail
        go_roundw
        case rel => exact ⟨k + 1, by omega, by go_num, by rw [S.out], hbel4⟩
        case measure => simp [intOf]; omega
    · obtain rfl : k = zs.length := by omega
      have hl : (selTo p zs.length).length = G.length := by rw [HG.out]
      rw [hl]
      clear hl
      have hr4 := hr3.below hbel
      have hB4 : B ≤ wr.heap.size := Nat.le_trans hB3 hbel.size
      have hbel4 : Below B w wr := hbel3.trans (hbel.mono hB3)
      clear hbel hr3 hR3
      go_wp2_with fail
      refine (and_calls none _ 0 _ [] _ _ (.inl rfl) hr4 (by decide) (by omega)).mono ?_
      rintro e w5 ⟨a5, c5, rfl, hr5, hb5⟩
      rw [andL_nil]
      have hbel5 : Below B w w5 := hbel4.trans (hb5.mono hB4)
      clear hr5 hb5
      go_wp2_with fail
      go_ret
      exact ⟨rfl, by rw [HB.out]; exact hbel5⟩

set_option maxHeartbeats 1000000 in
theorem ands_long (n m x y : Int) (a : Option Addr) (len cap : Nat) (w : World) (hs : Signs w) (hm : len ≤ maxLen) (h : 200 < len) :
    Calls Tryd.prog 6 #[.int .i64 n, .int .i64 m, .slice a len cap, .int .i64 x, .int .i64 y] w (TrueRet w) := by
  unfold maxLen at hm
  have h1 : decide (200 < len) = true := by simpa using h
  go_enter Tryd.func6, Tryd.ntmps6
  go_wp2_with fail
  refine (head_calls _ hs).mono ?_
  rintro e w1 ⟨rfl, hb1⟩
  go_wp2_with fail
  go_ret
  exact ⟨rfl, hb1⟩

theorem ands_walk (n m : Int) (a : Option Addr) (len cap : Nat) (zs : List Int) (x y : Int) (w : World) (hs : Signs w) (h : IsRow .i64 w a len cap zs) (hbd : ∀ n, (Lit.int .i64 n).wf = true → -9223372036854775808 ≤ n ∧ n ≤ 9223372036854775807) :
    Calls Tryd.prog 6 #[.int .i64 n, .int .i64 m, .slice a len cap, .int .i64 x, .int .i64 y] w (TrueRet w) := by
  obtain ⟨us, rfl, hR, _, hm⟩ := isRow_row h hbd
  by_cases h1 : 200 < us.length
  · exact ands_long _ _ _ _ _ _ _ _ hs hm h1
  · exact ands_some _ _ _ _ _ _ us _ hs hR (by omega)
end Go.Proofs.YtplckcnmpnnkgaaDoor
