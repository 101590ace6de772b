/- The statement ColumnReckons, walked. -/
import Derived.Test.YtplckcnmpnnkgaaDoorCol7
namespace Go.Proofs.YtplckcnmpnnkgaaDoor
open Go.RowKit
set_option linter.unusedVariables false
set_option linter.unusedSimpArgs false

theorem ofInt_toNat (x : Int) : (BitVec.ofInt 64 x).toNat = (x % 18446744073709551616).toNat := by
  rw [BitVec.toNat_ofInt]; rfl
theorem mask6 (x : Int) : bits .and .i64 x 63 = x % 64 := by
  show IntKind.i64.wrap ((BitVec.ofInt 64 x &&& BitVec.ofInt 64 63).toNat : Int) = _
  rw [BitVec.toNat_and, ofInt_toNat, show (BitVec.ofInt 64 63).toNat = 2 ^ 6 - 1 by decide, Nat.and_two_pow_sub_one_eq_mod, IntKind.wrap_i64]
  omega
theorem doRow_succ (o : Int) (zs ys : List Int) (k : Nat) : doRow o zs ys (k + 1) = doRow o zs ys k ++ [valAt o zs ys k] := by simp [doRow, List.range_succ]
theorem doRow_len (o : Int) (zs ys : List Int) (k : Nat) : (doRow o zs ys k).length = k := by simp [doRow]
theorem okTo_bad {o : Int} {zs ys : List Int} {j j' : Nat} (h : okTo o zs ys j) (hb : okAt o zs ys j = false) (h' : okTo o zs ys j') (hb' : okAt o zs ys j' = false) : j = j' := by
  rcases Nat.lt_trichotomy j j' with h1 | h1 | h1
  · rw [h' j h1] at hb; cases hb
  · exact h1
  · rw [h j' h1] at hb'; cases hb'

/-- What the statement's loop has come to behind k places. -/
def LoopSt (o : Int) (zs ys : List Int) (k : Nat) (bv : Int) (want : List Int) : Prop :=
  (bv = -1 ∧ okTo o zs ys k ∧ want = doRow o zs ys k) ∨ ∃ j : Nat, k = j + 1 ∧ bv = j ∧ okTo o zs ys j ∧ okAt o zs ys j = false

set_option maxRecDepth 100000 in
set_option maxHeartbeats 4000000 in
theorem reckons_some (n many : Int) (a c : Option Addr) (cap cap' : Nat) (zs ys : List Int) (w : World) (hs : Signs w) (hR : Row w a zs) (hS : Row w c ys) (hz : Bnd zs) (hy : Bnd ys) (hlen : zs.length ≤ 200) (hlen' : ys.length ≤ 200) :
    Calls Tryd.prog 7 #[.int .i64 n, .slice a zs.length cap, .slice c ys.length cap', .int .i64 many] w (TrueRet w) := by
  obtain ⟨i0, hi, hz0, hz1, hz2⟩ := info_parts info2
  have I := Lib.hid hi
  have Z0 := Lib.hid hz0
  have Z1 := Lib.hid hz1
  have Z2 := Lib.hid hz2
  clear hi hz0 hz1 hz2
  have t1 : decide (200 < zs.length) = false := by simp; omega
  have t2 : decide (200 < ys.length) = false := by simp; omega
  obtain ⟨B, hB⟩ : ∃ B, w.heap.size = B := ⟨_, rfl⟩
  have HB := Lib.hid hB
  clear hB
  obtain ⟨N, hN, hN0, hN4⟩ : ∃ N : Int, wrap64 ((IntKind.u64.wrap n).tmod 5) = N ∧ 0 ≤ N ∧ N ≤ 4 := ⟨_, rfl, idx5 n⟩
  go_enter Tryd.func7, Tryd.ntmps7
  go_wp2_with fail
  refine (head_calls _ hs).mono ?_
  rintro e w0 ⟨rfl, hb0⟩
  rw [HB.out] at hb0
  have hB0 : B ≤ w0.heap.size := by have := hb0.size; rw [HB.out] at this; exact this
  have hmask := mask6 many
  obtain ⟨M, hM⟩ : ∃ M : Nat, many % 64 = (M : Int) := ⟨(many % 64).toNat, by omega⟩
  have hM63 : M ≤ 63 := by omega
  rw [hM] at hmask
  have HMask := Lib.hid hmask
  clear hM hmask
  obtain ⟨m, hm⟩ : ∃ m, min zs.length ys.length = m := ⟨_, rfl⟩
  have HM := Lib.hid hm
  have hm1 : m ≤ zs.length := by omega
  have hm2 : m ≤ ys.length := by omega
  clear hm
  have q : (ys.length < zs.length ∧ m = ys.length) ∨ (¬ ys.length < zs.length ∧ m = zs.length) := by have := HM.out; omega
  go_wp2_with fail
  rw [hN]
  clear hN
  go_loopw [10, 11, 12] (fun v bd i wr => ∃ (k : Nat) (bv : Int) (want : List Int), k ≤ m ∧ i = .int .i64 k ∧ bd = .int .i64 bv ∧ want.length ≤ k ∧ LoopSt N zs ys k bv want ∧ wr.ownsRow B 2 1 v want.length (want.map (Value.int .i64)) ∧ Below B w wr)
    (fun _ _ i _ => m - (intOf i).toNat)
  case atStart => exact ⟨0, -1, [], Nat.zero_le _, rfl, rfl, Nat.le_refl _, .inl ⟨rfl, fun i hi => by omega, rfl⟩, World.ownsRow_made w0 #[] 0 hB0 (by decide) rfl, hb0.alloc hB0 _⟩
  case round =>
    clear hb0 hB0
    obtain ⟨k, bv, want, hk, rfl, rfl, hwl, hst, hown, hbel⟩ := hrel
    have hBr : B ≤ wr.heap.size := by have := hbel.size; rw [HB.out] at this; exact this
    by_cases hlt : k < m ∧ bv = -1
    · obtain ⟨hlt, rfl⟩ := hlt
      have hst2 : okTo N zs ys k ∧ want = doRow N zs ys k := by
        rcases hst with ⟨_, h1, h2⟩ | ⟨j, _, h, _⟩
        · exact ⟨h1, h2⟩
        · omega
      have HST := Lib.hid hst2
      clear hst hst2
      have hl1 : k < zs.length := by omega
      have hl2 : k < ys.length := by omega
      obtain ⟨b, off, rfl, hb, hcell⟩ := (hR.belowB HB.out hbel).at hl1
      obtain ⟨b2, off2, rfl, hb2, hcell2⟩ := (hS.belowB HB.out hbel).at hl2
      have B1 := Lib.hid (hz.at k)
      have B2 := Lib.hid (hy.at k)
      have V : Hid (valAt N zs ys k = doVal N (zs[k]?.getD 0) (ys[k]?.getD 0)) := Lib.hid rfl
      have O : Hid (okAt N zs ys k = doOk N (zs[k]?.getD 0) (ys[k]?.getD 0)) := Lib.hid rfl
      generalize zs[k]?.getD 0 = z at *
      generalize ys[k]?.getD 0 = y at *
      obtain ⟨v, hv⟩ : ∃ v, doVal N z y = v := ⟨_, rfl⟩
      have HV := Lib.hid hv
      clear hv
      obtain ⟨r, hr⟩ : ∃ r, doOk N z y = r := ⟨_, rfl⟩
      have D := Lib.hid hr
      clear hr
      rcases q with ⟨hmin, q⟩ | ⟨hmin, q⟩ <;> cases r
      all_goals
        clear q
        go_wp2_with fail
        go_quiet ((go_at_call 19; exact quiet_mine (do_is _ B1.out B2.out D.out HV.out)))
        have hown2 := owns_drewN hown nq
        have hbel2 := below_drewN hbel nq
        have hBr2 : B ≤ (wr.drewN nq).heap.size := hBr
        clear hbel hcell hcell2 hown hBr hb hb2
        generalize wr.drewN nq = wq at *
        go_wp2_with (first | (at_builtin; refine wpList_append_own _ rfl _ _ 28 rfl B 2 i0 (.int .i64 0) 1 8 Tryd.underlying28 I.out Z0.out Z1.out Z2.out rfl (by decide) _ _ _ rfl (hown2.alloc _) ⟨wq.heap.size, 0, none⟩ 1 1 [.int .i64 v] rfl rfl ?c1 ?c2 ?c3 ?c4 ?c5 ?_))
        case c1 =>
          intro j u hj
          match j, hj with
          | 0, hj => simp at hj; subst hj; simp [Addr.add]
        case c2 => intro u hu; simp at hu; subst hu; rfl
        case c3 => unfold maxLen; omega
        case c4 => omega
        case c5 => simp; omega
        intro v' w1 hown' hgrow _
        have R := app_step hBr2 hbel2 hown2 hown' hgrow
        clear hown' hgrow hown2 hbel2
        go_wp2_with fail
        go_roundw
        case rel =>
          first
            | exact ⟨k + 1, -1, want ++ [v], by omega, by go_num, rfl, by simp; omega, .inl ⟨rfl, okTo_succ HST.out.1 (by rw [O.out]; exact D.out), by rw [doRow_succ, V.out, HV.out, HST.out.2]⟩, R.1, R.2⟩
            | exact ⟨k + 1, k, want ++ [v], by omega, by go_num, rfl, by simp; omega, .inr ⟨k, rfl, rfl, HST.out.1, by rw [O.out]; exact D.out⟩, R.1, R.2⟩
        case measure => simp [intOf]; omega
    · have hend : (bv = -1 ∧ k = m ∧ okTo N zs ys m ∧ want = doRow N zs ys m) ∨ ∃ j : Nat, j < m ∧ bv = j ∧ okTo N zs ys j ∧ okAt N zs ys j = false := by
        rcases hst with ⟨h1, h2, h3⟩ | ⟨j, h1, h2, h3, h4⟩
        · have : k = m := by omega
          subst this; exact .inl ⟨h1, rfl, h2, h3⟩
        · exact .inr ⟨j, by omega, h2, h3, h4⟩
      clear hst hlt
      have hR1 := hR.belowB HB.out hbel
      have hS1 := hS.belowB HB.out hbel
      obtain ⟨a1, c1, rfl, hW⟩ := row_of_owns hown
      clear hown hR hS
      have hx : ∃ (G : List Int) (gv : Int), (G.length ≤ 200) ∧ ((bv = -1 ∧ gv = -1 ∧ k = m ∧ want = G ∧ okTo N zs ys m ∧ G = doRow N zs ys m) ∨ (∃ j : Nat, j < m ∧ bv = j ∧ gv = j ∧ G = [] ∧ okTo N zs ys j ∧ okAt N zs ys j = false)) := by
        rcases hend with ⟨h1, h2, h3, h4⟩ | ⟨j, h1, h2, h3, h4⟩
        · exact ⟨want, -1, by omega, .inl ⟨h1, rfl, h2, rfl, h3, h4⟩⟩
        · exact ⟨[], j, by simp, .inr ⟨j, h1, h2, rfl, rfl, h3, h4⟩⟩
      obtain ⟨G, gv, hGl, hx⟩ := hx
      have hdo : ∀ e w', DoRet N zs ys m wr e w' → RowRet2 wr G gv e w' := by
        intro e w' hd
        rcases hx with ⟨_, rfl, _, _, h1, rfl⟩ | ⟨j, hj, _, rfl, rfl, h1, h2⟩
        · rcases hd with ⟨_, h⟩ | ⟨j', hj', h3, h4, h⟩
          · exact h
          · rw [h1 j' hj'] at h4; cases h4
        · rcases hd with ⟨h3, h⟩ | ⟨j', hj', h3, h4, h⟩
          · rw [h3 j hj] at h2; cases h2
          · rw [okTo_bad h1 h2 h3 h4]; exact h
      have HDO := Lib.hid hdo
      clear hdo hend
      have hcd : Calls Tryd.prog 20 #[.int .i64 N, .slice a zs.length cap, .slice c ys.length cap'] wr (RowRet2 wr G gv) :=
        (by have h := coldo_calls N a c cap cap' zs ys wr hR1 hS1 hz hy (by omega) (by omega); rw [HM.out] at h; exact h.mono HDO.out)
      have HCD := Lib.hid hcd
      clear hcd HDO hR1 hS1
      have hx2 : (bv = -1 ∧ gv = -1 ∧ k = m ∧ want = G) ∨ (∃ j : Nat, j < m ∧ bv = j ∧ gv = j ∧ G = []) := by
        rcases hx with ⟨h1, h2, h3, h4, _⟩ | ⟨j, h1, h2, h3, h4, _⟩
        · exact .inl ⟨h1, h2, h3, h4⟩
        · exact .inr ⟨j, h1, h2, h3, h4⟩
      clear hx
      have hkk : (k < zs.length ∨ ¬ k < zs.length) ∧ (k < ys.length ∨ ¬ k < ys.length) := by omega
      rcases hx2 with ⟨rfl, rfl, rfl, rfl⟩ | ⟨j, hj, rfl, rfl, rfl⟩ <;> rcases q with ⟨hmin, q⟩ | ⟨hmin, q⟩ <;> rcases hkk with ⟨hk1 | hk1, hk2 | hk2⟩
      all_goals
        have Q := Lib.hid q
        clear q
        try (exfalso; have := Q.out; omega)
      all_goals
        go_wp2_with fail
        with_reducible refine HCD.out.mono ?_
        rintro e w1 ⟨a2, c2, rfl, hr2, hb2⟩
        have hW1 := hW.below hb2
        have hbel1 : Below B w w1 := hbel.trans (hb2.mono hBr)
        have hB1 : B ≤ w1.heap.size := Nat.le_trans hBr hb2.size
        clear HCD hW hbel hBr hb2
        have hmk := HMask.out
        go_wp2_with fail
        clear hmk
        refine (fill_calls M 5 _ (by omega)).mono ?_
        rintro e w2 ⟨a3, c3, rfl, hf, hb3⟩
        have hW2 := hW1.below hb3
        have hr3 := hr2.below hb3
        have hbel2 : Below B w w2 := hbel1.trans (hb3.mono hB1)
        have hB2 : B ≤ w2.heap.size := Nat.le_trans hB1 hb3.size
        clear hW1 hr2 hbel1 hB1 hb3
        rw [List.length_replicate]
        go_wp2_with fail
        go_loop [83] (fun i => ∃ l : Nat, l ≤ M ∧ i = .int .i64 l) (fun i => M - (intOf i).toNat)
        case atStart => exact ⟨0, Nat.zero_le _, rfl⟩
        case round =>
          obtain ⟨l, hl, rfl⟩ := hrel
          by_cases hlt : l < M
          · obtain ⟨b, off, rfl, hb, hcell⟩ := hf.at (k := l) (by rw [List.length_replicate]; exact hlt)
            have hv5 : (List.replicate M (5 : Int))[l]?.getD 0 = 5 := by simp [hlt]
            rw [hv5] at hcell
            clear hv5
            go_wp2_with fail
            go_round
            case rel => exact ⟨l + 1, by omega, by go_num⟩
            case measure => simp [intOf]; omega
          · obtain rfl : l = M := by omega
            go_wp2_with fail
            first
              | with_reducible refine (same_calls _ _ _ _ _ _ hr3 hW2 (by omega)).mono ?_
              | refine (same_calls _ none _ 0 [] _ hr3 (.inl rfl) (by decide)).mono ?_
            rintro e w4 ⟨rfl, hb4⟩
            have hbel4 : Below B w w4 := hbel2.trans (hb4.mono hB2)
            have hB4 : B ≤ w4.heap.size := Nat.le_trans hB2 hb4.size
            clear hbel2 hb4 hB2
            go_wp2_with fail
            refine (fill_none _ 5 _ (by omega)).mono ?_
            rintro e w5 ⟨a5, c5, rfl, _, hb5⟩
            have hbel5 : Below B w w5 := hbel4.trans (hb5.mono hB4)
            go_wp2_with fail
            go_ret
            exact ⟨rfl, by rw [HB.out]; exact hbel5⟩

set_option maxRecDepth 100000 in
set_option maxHeartbeats 1000000 in
theorem reckons_long (n many : Int) (a c : Option Addr) (len cap len' cap' : Nat) (w : World) (hs : Signs w) (hm : len ≤ maxLen) (hm' : len' ≤ maxLen) (h : 200 < len ∨ (len ≤ 200 ∧ 200 < len')) :
    Calls Tryd.prog 7 #[.int .i64 n, .slice a len cap, .slice c len' cap', .int .i64 many] w (TrueRet w) := by
  unfold maxLen at hm hm'
  rcases h with h | ⟨h, h'⟩
  · have h1 : decide (200 < len) = true := by simpa using h
    go_enter Tryd.func7, Tryd.ntmps7
    go_wp2_with fail
    refine (head_calls _ hs).mono ?_
    rintro e w1 ⟨rfl, hb1⟩
    go_wp2_with fail
    go_ret
    exact ⟨rfl, hb1⟩
  · have h1 : decide (200 < len) = false := by simp; omega
    have h2 : decide (200 < len') = true := by simpa using h'
    go_enter Tryd.func7, Tryd.ntmps7
    go_wp2_with fail
    refine (head_calls _ hs).mono ?_
    rintro e w1 ⟨rfl, hb1⟩
    go_wp2_with fail
    go_ret
    exact ⟨rfl, hb1⟩

theorem reckons_walk (n : Int) (a : Option Addr) (len cap : Nat) (zs : List Int) (c : Option Addr) (len' cap' : Nat) (ys : List Int) (many : Int) (w : World) (hs : Signs w) (h : IsRow .i64 w a len cap zs) (h' : IsRow .i64 w c len' cap' ys) (hbd : ∀ n, (Lit.int .i64 n).wf = true → -9223372036854775808 ≤ n ∧ n ≤ 9223372036854775807) :
    Calls Tryd.prog 7 #[.int .i64 n, .slice a len cap, .slice c len' cap', .int .i64 many] w (TrueRet w) := by
  obtain ⟨us, rfl, hR, hz, hm⟩ := isRow_row h hbd
  obtain ⟨vs, rfl, hS, hy, hm'⟩ := isRow_row h' hbd
  by_cases h1 : 200 < us.length
  · exact reckons_long _ _ _ _ _ _ _ _ _ hs hm hm' (.inl h1)
  · by_cases h2 : 200 < vs.length
    · exact reckons_long _ _ _ _ _ _ _ _ _ hs hm hm' (.inr ⟨by omega, h2⟩)
    · exact reckons_some _ _ _ _ _ _ us vs _ hs hR hS hz hy (by omega) (by omega)
end Go.Proofs.YtplckcnmpnnkgaaDoor
