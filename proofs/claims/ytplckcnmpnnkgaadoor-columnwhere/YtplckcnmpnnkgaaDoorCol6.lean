/- The statement ColumnWhere, walked. -/
import Derived.Test.YtplckcnmpnnkgaaDoorCol7
import Derived.StillTailTactics
namespace Go.Proofs.YtplckcnmpnnkgaaDoor
open Go.RowKit
set_option linter.unusedVariables false
set_option linter.unusedSimpArgs false

set_option maxRecDepth 100000 in
set_option maxHeartbeats 2000000 in
theorem where_some (n x : Int) (a c : Option Addr) (cap cap' : Nat) (zs ys : List Int) (w : World) (hs : Signs w) (hR : Row w a zs) (hS : Row w c ys) (hlen : zs.length ≤ 200) (hlen' : ys.length ≤ 200) :
    Calls Tryd.prog 4 #[.int .i64 n, .slice a zs.length cap, .slice c ys.length cap', .int .i64 x] w (TrueRet w) := by
  have t1 : decide (200 < zs.length) = false := by simp; omega
  have t2 : decide (200 < ys.length) = false := by simp; omega
  obtain ⟨B, hB⟩ : ∃ B, w.heap.size = B := ⟨_, rfl⟩
  have HB := Lib.hid hB
  clear hB
  obtain ⟨N, hN, hN0, hN5⟩ : ∃ N : Int, wrap64 ((IntKind.u64.wrap n).tmod 6) = N ∧ 0 ≤ N ∧ N ≤ 5 := ⟨_, rfl, idx6 n⟩
  go_enter Tryd.func4, Tryd.ntmps4
  go_wp2_with fail
  refine (head_calls _ hs).mono ?_
  rintro e w0 ⟨rfl, hb0⟩
  have hR0 := hR.below hb0
  have hS0 := hS.below hb0
  rw [HB.out] at hb0
  have hB0 : B ≤ w0.heap.size := by have := hb0.size; rw [HB.out] at this; exact this
  go_wp2_with fail
  refine (where_calls N x _ _ zs _ hR0 (by omega)).mono ?_
  rintro e w1 ⟨a1, c1, rfl, hr1, hb1⟩
  have hR1 := hR0.below hb1
  have hS1 := hS0.below hb1
  have hbel1 : Below B w w1 := hb0.trans (hb1.mono hB0)
  clear hb0 hb1 hR0 hS0 hB0 hR hS hs
  have hB1 : B ≤ w1.heap.size := by have := hbel1.size; rw [HB.out] at this; exact this
  rw [hN]
  clear hN
  obtain ⟨p, hp⟩ : ∃ p : Nat → Bool, p = fun i => holdsB N (zs[i]?.getD 0) x := ⟨_, rfl⟩
  have HP := Lib.hid hp
  have hG : whereL N zs x = selTo p zs.length := by rw [hp]; rfl
  rw [hG] at hr1 ⊢
  clear hp hG
  obtain ⟨G, hG⟩ : ∃ G, selTo p zs.length = G := ⟨_, rfl⟩
  have hGl : G.length ≤ 200 := by rw [← hG]; exact Nat.le_trans (selTo_le _ _) hlen
  rw [hG] at hr1 ⊢
  have HG := Lib.hid hG
  clear hG
  go_wp2_with fail
  go_loopw [9, 34] (fun kk i wr => ∃ k : Nat, k ≤ zs.length ∧ i = .int .i64 k ∧ kk = .int .i64 (selTo p k).length ∧ Below w1.heap.size w1 wr)
    (fun _ i _ => zs.length - (intOf i).toNat)
  case atStart => exact ⟨0, Nat.zero_le _, rfl, rfl, Below.refl _ _⟩
  case round =>
    obtain ⟨k, hk, rfl, rfl, hbel⟩ := hrel
    by_cases hlt : k < zs.length
    · obtain ⟨b, off, rfl, hb, hcell⟩ := (hR1.below hbel).at hlt
      have HPk : Hid (p k = holdsB N (zs[k]?.getD 0) x) := by rw [HP.out]; exact Lib.hid rfl
      generalize zs[k]?.getD 0 = z at *
      by_cases h1 : holdsB N z x = true
      · have H1 := Lib.hid h1
        have hpk : p k = true := by rw [HPk.out, h1]
        have S := Lib.hid (selTo_yes hpk)
        have A := selTo_at hlt hpk
        clear h1 hpk
        rw [HG.out] at A
        obtain ⟨j, hj⟩ : ∃ j, (selTo p k).length = j := ⟨_, rfl⟩
        rw [hj] at A ⊢
        obtain ⟨b3, off3, rfl, hb3, hc3⟩ := (hr1.below hbel).at A.1
        rw [A.2] at hc3
        have hjl := A.1
        have HJ := Lib.hid hj
        clear A hj
        have hgt : decide (G.length ≤ j) = false := by simp; omega
        go_wp2_with fail
        with_reducible refine (lawHolds_is _ hN0 hN5 H1.out).mono ?_
        rintro e w4 ⟨rfl, hb4⟩
        have d2 : w4.cell? ⟨b3, off3 + j, none⟩ = some (.int .i64 k) := (hb4.cell (p := ⟨b3, off3 + j, none⟩) hb3).trans hc3
        have hbel4 := hbel.trans (hb4.mono hbel.size)
        clear hcell hc3 hbel hb4 hb hb3
        go_wp2_with fail
        go_roundw
        case rel => exact ⟨k + 1, by omega, by go_num, by rw [S.out, List.length_append, HJ.out]; go_num, hbel4⟩
        case measure => simp [intOf]; omega
      · have h1' : holdsB N z x = false := by simpa using h1
        have hpk : p k = false := by rw [HPk.out, h1']
        have S := Lib.hid (selTo_no hpk)
        have H1 := Lib.hid h1'
        clear h1 h1' hpk
        go_wp2_with fail
        with_reducible refine (lawHolds_is _ hN0 hN5 H1.out).mono ?_
        rintro e w4 ⟨rfl, hb4⟩
        have hbel4 := hbel.trans (hb4.mono hbel.size)
        clear hcell hbel hb4
        go_wp2_with fail
        go_roundw
        case rel => exact ⟨k + 1, by omega, by go_num, by rw [S.out], hbel4⟩
        case measure => simp [intOf]; omega
    · obtain rfl : k = zs.length := by omega
      have hl : (selTo p zs.length).length = G.length := by rw [HG.out]
      rw [hl]
      clear hl HG HP
      have hR2 := hR1.below hbel
      have hS2 := hS1.below hbel
      have hB2 : B ≤ wr.heap.size := Nat.le_trans hB1 hbel.size
      have hbel2 : Below B w wr := hbel1.trans (hbel.mono hB1)
      clear hbel hr1 hR1 hS1 hbel1 hB1
      obtain ⟨wm, rfl⟩ : ∃ x, x = wr := ⟨wr, rfl⟩
      go_wp2_with fail
      refine (both_calls N _ _ _ _ zs ys _ hR2 hS2 (by omega) (by omega)).mono ?_
      rintro e w3 ⟨a3, c3, rfl, hr3, hb3⟩
      have hR3 := hR2.below hb3
      have hS3 := hS2.below hb3
      have hbel3 : Below B w w3 := hbel2.trans (hb3.mono hB2)
      have hB3 : B ≤ w3.heap.size := Nat.le_trans hB2 hb3.size
      clear hR2 hS2 hbel2 hB2 hb3
      obtain ⟨m, hm⟩ : ∃ m, min zs.length ys.length = m := ⟨_, rfl⟩
      have HM := Lib.hid hm
      have hm1 : m ≤ zs.length := by omega
      have hm2 : m ≤ ys.length := by omega
      obtain ⟨q, hq⟩ : ∃ q : Nat → Bool, q = fun i => holdsB N (zs[i]?.getD 0) (ys[i]?.getD 0) := ⟨_, rfl⟩
      have HQ := Lib.hid hq
      have hG : bothL N zs ys = selTo q m := by rw [hq, ← hm]; rfl
      rw [hG] at hr3 ⊢
      clear hq hG hm
      obtain ⟨F, hF⟩ : ∃ F, selTo q m = F := ⟨_, rfl⟩
      have hFl : F.length ≤ 200 := by rw [← hF]; exact Nat.le_trans (selTo_le _ _) (by omega)
      rw [hF] at hr3 ⊢
      have HF := Lib.hid hF
      clear hF
      have hmin : (ys.length < zs.length ∧ m = ys.length) ∨ (¬ ys.length < zs.length ∧ m = zs.length) := by have := HM.out; omega
      go_wp2_with fail
      go_loopw [9, 13] (fun kk i wr => ∃ k : Nat, k ≤ m ∧ i = .int .i64 k ∧ kk = .int .i64 (selTo q k).length ∧ Below w3.heap.size w3 wr)
        (fun _ i _ => m - (intOf i).toNat)
      case atStart => exact ⟨0, Nat.zero_le _, rfl, rfl, Below.refl _ _⟩
      case round =>
        obtain ⟨k, hk, rfl, rfl, hbel⟩ := hrel
        by_cases hlt : k < m
        · have hl1 : k < zs.length := by omega
          have hl2 : k < ys.length := by omega
          obtain ⟨b, off, rfl, hb, hcell⟩ := (hR3.below hbel).at hl1
          obtain ⟨b2, off2, rfl, hb2, hcell2⟩ := (hS3.below hbel).at hl2
          have HPk : Hid (q k = holdsB N (zs[k]?.getD 0) (ys[k]?.getD 0)) := by rw [HQ.out]; exact Lib.hid rfl
          generalize zs[k]?.getD 0 = z at *
          generalize ys[k]?.getD 0 = y at *
          by_cases h1 : holdsB N z y = true
          · have H1 := Lib.hid h1
            have hpk : q k = true := by rw [HPk.out, h1]
            have S := Lib.hid (selTo_yes hpk)
            have A := selTo_at hlt hpk
            clear h1 hpk
            rw [HF.out] at A
            obtain ⟨j, hj⟩ : ∃ j, (selTo q k).length = j := ⟨_, rfl⟩
            rw [hj] at A ⊢
            obtain ⟨b3, off3, rfl, hb3, hc3⟩ := (hr3.below hbel).at A.1
            rw [A.2] at hc3
            have hjl := A.1
            have HJ := Lib.hid hj
            clear A hj
            have hgt : decide (F.length ≤ j) = false := by simp; omega
            rcases hmin with ⟨hmin, hmq⟩ | ⟨hmin, hmq⟩
            all_goals
              clear hmq
              go_wp2_with fail
              go_still_tail 9, (by kernel_rfl)
              have d3 : wr.drew.cell? ⟨b3, off3 + j, none⟩ = some (.int .i64 k) := hc3
              have hb3' : b3 < wr.drew.heap.size := hb3
              have hbel' : Below w3.heap.size w3 wr.drew := hbel.drew
              clear hcell hcell2 hc3 hbel hb hb2 hb3
              change wpList _ _ _ _ _ wr.drew
              generalize wr.drew = wq at *
              go_wp2_with fail
              with_reducible refine (lawHolds_is _ hN0 hN5 H1.out).mono ?_
              rintro e w4 ⟨rfl, hb4⟩
              have d2 : w4.cell? ⟨b3, off3 + j, none⟩ = some (.int .i64 k) := (hb4.cell (p := ⟨b3, off3 + j, none⟩) hb3').trans d3
              have hbel4 := hbel'.trans (hb4.mono hbel'.size)
              clear d3 hbel' hb4 hb3'
              go_wp2_with fail
              go_roundw
              case rel => exact ⟨k + 1, by omega, by go_num, by rw [S.out, List.length_append, HJ.out]; go_num, hbel4⟩
              case measure => simp [intOf]; omega
          · have h1' : holdsB N z y = false := by simpa using h1
            have hpk : q k = false := by rw [HPk.out, h1']
            have S := Lib.hid (selTo_no hpk)
            have H1 := Lib.hid h1'
            clear h1 h1' hpk
            rcases hmin with ⟨hmin, hmq⟩ | ⟨hmin, hmq⟩
            all_goals
              clear hmq
              go_wp2_with fail
              go_still_tail 9, (by kernel_rfl)
              have hbel' : Below w3.heap.size w3 wr.drew := hbel.drew
              clear hcell hcell2 hbel hb hb2
              change wpList _ _ _ _ _ wr.drew
              generalize wr.drew = wq at *
              go_wp2_with fail
              with_reducible refine (lawHolds_is _ hN0 hN5 H1.out).mono ?_
              rintro e w4 ⟨rfl, hb4⟩
              have hbel4 := hbel'.trans (hb4.mono hbel'.size)
              clear hbel' hb4
              go_wp2_with fail
              go_roundw
              case rel => exact ⟨k + 1, by omega, by go_num, by rw [S.out], hbel4⟩
              case measure => simp [intOf]; omega
        · obtain rfl : k = m := by omega
          have hl : (selTo q k).length = F.length := by rw [HF.out]
          rw [hl]
          clear hl
          have hbel4 : Below B w wr := hbel3.trans (hbel.mono hB3)
          clear hbel
          rcases hmin with ⟨hmin, hmq⟩ | ⟨hmin, hmq⟩
          · have h9 : ¬ k < ys.length := by omega
            have H := Lib.hid hmq
            clear hmq
            go_wp2_with fail
            go_ret
            exact ⟨rfl, by rw [HB.out]; exact hbel4⟩
          · have h9 : ¬ k < zs.length := by omega
            have H := Lib.hid hmq
            clear hmq
            go_wp2_with fail
            go_ret
            exact ⟨rfl, by rw [HB.out]; exact hbel4⟩

set_option maxRecDepth 100000 in
set_option maxHeartbeats 1000000 in
theorem where_long (n x : Int) (a c : Option Addr) (len cap len' cap' : Nat) (w : World) (hs : Signs w) (hm : len ≤ maxLen) (hm' : len' ≤ maxLen) (h : 200 < len ∨ (len ≤ 200 ∧ 200 < len')) :
    Calls Tryd.prog 4 #[.int .i64 n, .slice a len cap, .slice c len' cap', .int .i64 x] w (TrueRet w) := by
  unfold maxLen at hm hm'
  rcases h with h | ⟨h, h'⟩
  · have h1 : decide (200 < len) = true := by simpa using h
    go_enter Tryd.func4, Tryd.ntmps4
    go_wp2_with fail
    refine (head_calls _ hs).mono ?_
    rintro e w1 ⟨rfl, hb1⟩
    go_wp2_with fail
    go_ret
    exact ⟨rfl, hb1⟩
  · have h1 : decide (200 < len) = false := by simp; omega
    have h2 : decide (200 < len') = true := by simpa using h'
    go_enter Tryd.func4, Tryd.ntmps4
    go_wp2_with fail
    refine (head_calls _ hs).mono ?_
    rintro e w1 ⟨rfl, hb1⟩
    go_wp2_with fail
    go_ret
    exact ⟨rfl, hb1⟩

theorem where_walk (n : Int) (a : Option Addr) (len cap : Nat) (zs : List Int) (c : Option Addr) (len' cap' : Nat) (ys : List Int) (x : Int) (w : World) (hs : Signs w) (h : IsRow .i64 w a len cap zs) (h' : IsRow .i64 w c len' cap' ys) (hbd : ∀ n, (Lit.int .i64 n).wf = true → -9223372036854775808 ≤ n ∧ n ≤ 9223372036854775807) :
    Calls Tryd.prog 4 #[.int .i64 n, .slice a len cap, .slice c len' cap', .int .i64 x] w (TrueRet w) := by
  obtain ⟨us, rfl, hR, _, hm⟩ := isRow_row h hbd
  obtain ⟨vs, rfl, hS, _, hm'⟩ := isRow_row h' hbd
  by_cases h1 : 200 < us.length
  · exact where_long _ _ _ _ _ _ _ _ _ hs hm hm' (.inl h1)
  · by_cases h2 : 200 < vs.length
    · exact where_long _ _ _ _ _ _ _ _ _ hs hm hm' (.inr ⟨by omega, h2⟩)
    · exact where_some _ _ _ _ _ _ us vs _ hs hR hS (by omega) (by omega)
end Go.Proofs.YtplckcnmpnnkgaaDoor
