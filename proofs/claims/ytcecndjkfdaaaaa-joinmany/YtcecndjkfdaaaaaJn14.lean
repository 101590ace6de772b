/- join's Merge and Semi, by their partners. -/
import Derived.Test.YtcecndjkfdaaaaaJn13
namespace Go.Proofs.Ytcecndjkfdaaaaa
open Go.RowKit Go.Shelf
set_option linter.unusedVariables false
set_option linter.unusedSimpArgs false

theorem SRow.at {w : World} {a : Option Addr} {F : List KS} (h : SRow w a F) {i : Nat} (hi : i < F.length) : ∃ b off, a = some ⟨b, off, none⟩ ∧ b < w.heap.size ∧ w.cell? ⟨b, off + i, none⟩ = some (.slice (atS F i).1 (atS F i).2.1.length (atS F i).2.2) := by
  rcases h.1 with rfl | ⟨b, off, rfl, hlt, hc⟩
  · simp at hi
  · exact ⟨b, off, rfl, hlt, hc i hi⟩
theorem KRow.at {w : World} {a : Option Addr} {L : List KE} (h : KRow w a L) {i : Nat} (hi : i < L.length) : ∃ b off, a = some ⟨b, off, none⟩ ∧ b < w.heap.size ∧ w.cell? ⟨b, off + i * 2, none⟩ = some (.slice (atK L i).1.1 (atK L i).1.2.1.length (atK L i).1.2.2) ∧ w.cell? ⟨b, off + i * 2 + 1, none⟩ = some (.int .i64 (atK L i).2) := by
  rcases h.1 with rfl | ⟨b, off, rfl, hlt, hc⟩
  · simp at hi
  · exact ⟨b, off, rfl, hlt, hc i hi⟩
theorem nums_at {x : KS} {k : Nat} (h : k < x.2.1.length) : (ints (nums x))[k]?.getD 0 = ((atK x.2.1 k).2 : Int) := by
  simp [ints, nums, atK, h]
theorem nums_len (x : KS) : (ints (nums x)).length = x.2.1.length := by simp [ints, nums]
set_option maxRecDepth 100000 in
set_option maxHeartbeats 4000000 in
theorem merge_join {w : World} {p o : Option Addr} {w1 w2 : Nat} {rs ss : List (List Int)} (hS : Seg w p w1 rs) (hT : Seg w o w2 ss) (a b : Option Addr) (ca cb : Nat) (ka kb : List Int) (hka : Row w a ka) (hkb : Row w b kb) (hal : ka.length ≤ 1000) (hbl : kb.length ≤ 1000) (hw1 : w1 ≤ 1000) (hw2 : w2 ≤ 1000) (hrs : rs.length ≤ 1000) (hss : ss.length ≤ 1000) :
    Calls Try.prog 18 #[.pointer p, .pointer o, .slice a ka.length ca, .slice b kb.length cb] w (PairRet w (pairsOf (rs.map fun r => keyL r ka) (ss.map fun r => keyL r kb))) := by
  obtain ⟨i0, hi0, hz0, hz1, hz2⟩ := info_parts info36
  have I := Lib.hid hi0
  have Z0 := Lib.hid hz0
  have Z1 := Lib.hid hz1
  have Z2 := Lib.hid hz2
  obtain ⟨B, hB⟩ : ∃ B, w.heap.size = B := ⟨_, rfl⟩
  have HB := Lib.hid hB
  have cp := partners_calls hS hT a b ca cb ka kb hka hkb hal hbl hw1 hw2 hrs hss
  have LA : Hid ((rs.map fun r => keyL r ka).length = rs.length) := Lib.hid (by simp)
  have LB : Hid ((ss.map fun r => keyL r kb).length = ss.length) := Lib.hid (by simp)
  generalize (rs.map fun r => keyL r ka) = kas at *
  generalize (ss.map fun r => keyL r kb) = kbs at *
  clear hi0 hz0 hz1 hz2 hB hS hT hka hkb
  go_enter Try.func18, Try.ntmps18
  go_wp2_with fail
  refine cp.mono ?_
  rintro e W1 ⟨pa, pc, F, rfl, hF, hFl, hN, hb1⟩
  have FS := Lib.hid hF
  have FL := Lib.hid hFl
  have FN := Lib.hid hN
  have BW1 : Hid (Below B w W1) := Lib.hid (by rw [HB.out] at hb1; exact hb1)
  have hFr : F.length ≤ 1000 := by have := LA.out; omega
  clear cp hF hFl hN hb1
  obtain ⟨C, hC⟩ : ∃ C, W1.heap.size = C := ⟨_, rfl⟩
  have HC := Lib.hid hC
  have hBC : Hid (B ≤ C) := Lib.hid (by have := BW1.out.size; rw [HB.out, hC] at this; exact this)
  clear hC
  go_wp2_with fail
  go_loopw [20, 9] (fun s v wr => ∃ (i : Nat) (u : Value), i ≤ F.length ∧ s = .int .i64 i ∧ u = v ∧ Hid (wr.ownsRow C 36 2 u (pairsTo kas kbs i).length (flat (pairsTo kas kbs i))) ∧ Hid (Below C W1 wr)) (fun s _ _ => F.length - (intOf s).toNat)
  case atStart => exact ⟨0, _, Nat.zero_le _, rfl, rfl, Lib.hid (World.ownsRow_nil _ _ _ _), Lib.hid (Below.refl _ _)⟩
  case round =>
    obtain ⟨i, u, hi, rfl, rfl, HO, HL⟩ := hrel
    by_cases hlt : i < F.length
    · obtain ⟨pb, po, rfl, _, hpc⟩ := (FS.out.belowB HC.out HL.out).at hlt
      have KX := Lib.hid ((FS.out.2 _ (atS_mem hlt)).1)
      have hxl := (FS.out.2 _ (atS_mem hlt)).2
      have SC : Hid (pairsTo kas kbs (i + 1) = pairsTo kas kbs i ++ rowPairs i (ints (nums (atS F i)))) := Lib.hid (by rw [pairsTo_succ, FN.out i (by have := FL.out; omega)])
      have hpl : (pairsTo kas kbs i).length ≤ 1000000 := by
        have := pairsTo_len kas kbs i
        rw [LB.out] at this
        have h2 : i * ss.length ≤ 1000 * 1000 := Nat.mul_le_mul (by omega) hss
        omega
      obtain ⟨x, hx⟩ : ∃ x, atS F i = x := ⟨_, rfl⟩
      rw [hx] at hpc KX hxl SC
      clear hx
      obtain ⟨la, L, lc⟩ := x
      have XL : Hid (∀ k, k < L.length → (ints (nums (la, L, lc)))[k]?.getD 0 = ((atK L k).2 : Int)) := Lib.hid (fun k hk => nums_at (x := (la, L, lc)) hk)
      have JL : Hid ((ints (nums (la, L, lc))).length = L.length) := Lib.hid (nums_len (la, L, lc))
      generalize ints (nums (la, L, lc)) = js at *
      simp only at hpc KX hxl
      generalize pairsTo kas kbs i = P0 at *
      go_wp2_with fail
      go_loopw [27, 9] (fun s v wr => ∃ (k : Nat) (u2 : Value), k ≤ L.length ∧ s = .int .i64 k ∧ u2 = v ∧ Hid (wr.ownsRow C 36 2 u2 (P0 ++ rowPairs i (js.take k)).length (flat (P0 ++ rowPairs i (js.take k)))) ∧ Hid (Below C W1 wr)) (fun s _ _ => L.length - (intOf s).toNat)
      case atStart => exact ⟨0, _, Nat.zero_le _, rfl, rfl, Lib.hid (by rw [List.take_zero]; simpa [rowPairs] using HO.out), HL⟩
      case round =>
        obtain ⟨k, u2, hk, rfl, rfl, HO2, HL2⟩ := hrel
        obtain ⟨W4, rfl⟩ : ∃ x, x = wr := ⟨wr, rfl⟩
        have hC6 : C ≤ W4.heap.size := by have := HL2.out.size; rw [HC.out] at this; exact this
        by_cases hkl2 : k < L.length
        · obtain ⟨lb, lo, hla, _, hk1, hk2⟩ := (KX.out.belowB HC.out HL2.out).at hkl2
          subst hla
          have ST := Lib.hid (rowPairs_take (i := i) (js := js) (k := k) (by have := JL.out; omega))
          rw [XL.out k hkl2] at ST
          have hq : (P0 ++ rowPairs i (js.take k)).length ≤ 1001000 := by rw [List.length_append]; simp only [rowPairs, List.length_map, List.length_take]; omega
          have ST2 : Hid (P0 ++ rowPairs i (js.take (k + 1)) = (P0 ++ rowPairs i (js.take k)) ++ [((i : Int), ((atK L k).2 : Int))]) := Lib.hid (by rw [ST.out, List.append_assoc])
          generalize P0 ++ rowPairs i (js.take k) = P1 at *
          generalize (atK L k).1.2.1.length = kl at *
          generalize (atK L k).1.1 = ka1 at *
          generalize (atK L k).1.2.2 = kc1 at *
          generalize (atK L k).2 = y at *
          go_wp2_with (first | (at_builtin; refine wpList_append_own_at _ rfl _ _ 30 rfl C 36 i0 _ 2 16 Try.underlying30 I.out Z0.out Z1.out Z2.out rfl (by decide) _ _ _ rfl ((HO2.out.alloc _).alloc _) _ 1 1 [.int .i64 i, .int .i64 y] rfl rfl ?c1 ?c2 ?c3 ?c4 ?c5 ?_))
          case c1 => intro j z hj; have h9 := two_new (W4.alloc (.cells #[.slice ka1 kl kc1, .int .i64 y] 78)) (.int .i64 i) (.int .i64 y) 36 j z hj; simpa using h9
          case c2 => first | exact ⟨rfl, rfl⟩ | (intro u hu; simp at hu; rcases hu with rfl | rfl <;> rfl)
          case c3 => unfold maxLen; omega
          case c4 => omega
          case c5 => simp; omega
          intro v1 w7 hown hgrow _ hat
          have R := app_pair (wr := W4.alloc (.cells #[.slice ka1 kl kc1, .int .i64 y] 78)) (by simp; omega) (HL2.out.alloc hC6 _) (HO2.out.alloc _) hown hgrow
          have O7 := Lib.hid R.1
          have L7 := Lib.hid R.2
          rw [← ST2.out] at O7
          clear hown hgrow hat R hk1 hk2
          go_wp2_with fail
          go_roundw
          case rel => exact ⟨k + 1, _, by omega, by go_num, rfl, O7, L7⟩
          case measure => simp [intOf]; omega
        · have tk : decide (k < L.length) = false := decide_eq_false hkl2
          have O6 : Hid (W4.ownsRow C 36 2 u2 (pairsTo kas kbs (i + 1)).length (flat (pairsTo kas kbs (i + 1)))) := Lib.hid (by rw [SC.out]; have := HO2.out; rw [List.take_of_length_le (by have := JL.out; omega)] at this; exact this)
          go_wp2_with fail
          go_roundw
          case rel => exact ⟨i + 1, u2, by omega, by go_num, rfl, O6, HL2⟩
          case measure => simp [intOf]; omega
    · have tl : decide (i < F.length) = false := decide_eq_false hlt
      have hfin : wr.ownsRow C 36 2 u (pairsOf kas kbs).length (flat (pairsOf kas kbs)) := by
        have := HO.out
        rw [show i = kas.length by have := FL.out; omega] at this
        exact this
      obtain ⟨a9, c9, rfl, hrow⟩ := prow_of_owns hfin
      have HRw := Lib.hid hrow
      clear hfin hrow
      go_wp2_with fail
      go_ret
      exact ⟨a9, c9, rfl, HRw.out, by rw [HB.out]; exact BW1.out.trans (HL.out.mono hBC.out)⟩

/-- The rows with a partner, or those with none, of the first m. -/
def semiTo (kas kbs : List (List Int)) (has : Bool) (m : Nat) : List Int := ints ((List.range m).filter fun i => decide (0 < (rowsOf kbs (kyAt kas i)).length) == has)
def semiOf (kas kbs : List (List Int)) (has : Bool) : List Int := semiTo kas kbs has kas.length
theorem semiTo_yes {kas kbs : List (List Int)} {has : Bool} {m : Nat} (h : decide (0 < (rowsOf kbs (kyAt kas m)).length) = has) : semiTo kas kbs has (m + 1) = semiTo kas kbs has m ++ [(m : Int)] := by
  simp [semiTo, ints, List.range_succ, List.filter_append, h]
theorem semiTo_no {kas kbs : List (List Int)} {has : Bool} {m : Nat} (h : decide (0 < (rowsOf kbs (kyAt kas m)).length) = !has) : semiTo kas kbs has (m + 1) = semiTo kas kbs has m := by
  simp [semiTo, ints, List.range_succ, List.filter_append, h]
theorem semiTo_len (kas kbs : List (List Int)) (has : Bool) (m : Nat) : (semiTo kas kbs has m).length ≤ m := by
  have := List.length_filter_le (fun i => decide (0 < (rowsOf kbs (kyAt kas i)).length) == has) (List.range m)
  simp [semiTo, ints] at *; exact this
set_option maxRecDepth 100000 in
set_option maxHeartbeats 4000000 in
theorem semi_join {w : World} {p o : Option Addr} {w1 w2 : Nat} {rs ss : List (List Int)} (hS : Seg w p w1 rs) (hT : Seg w o w2 ss) (a b : Option Addr) (ca cb : Nat) (ka kb : List Int) (hka : Row w a ka) (hkb : Row w b kb) (hal : ka.length ≤ 1000) (hbl : kb.length ≤ 1000) (hw1 : w1 ≤ 1000) (hw2 : w2 ≤ 1000) (hrs : rs.length ≤ 1000) (hss : ss.length ≤ 1000) (has : Bool) :
    Calls Try.prog 20 #[.pointer p, .pointer o, .slice a ka.length ca, .slice b kb.length cb, .bool has] w (RowRet w (semiOf (rs.map fun r => keyL r ka) (ss.map fun r => keyL r kb) has)) := by
  obtain ⟨i1, hi, hz0, hz1, hz2⟩ := info_parts info3
  have I' := Lib.hid hi
  have Z0' := Lib.hid hz0
  have Z1' := Lib.hid hz1
  have Z2' := Lib.hid hz2
  obtain ⟨B, hB⟩ : ∃ B, w.heap.size = B := ⟨_, rfl⟩
  have HB := Lib.hid hB
  have cp := partners_calls hS hT a b ca cb ka kb hka hkb hal hbl hw1 hw2 hrs hss
  have LA : Hid ((rs.map fun r => keyL r ka).length = rs.length) := Lib.hid (by simp)
  generalize (rs.map fun r => keyL r ka) = kas at *
  generalize (ss.map fun r => keyL r kb) = kbs at *
  clear hi hz0 hz1 hz2 hB hS hT hka hkb
  go_enter Try.func20, Try.ntmps20
  go_wp2_with fail
  refine cp.mono ?_
  rintro e W1 ⟨pa, pc, F, rfl, hF, hFl, hN, hb1⟩
  have FS := Lib.hid hF
  have FL := Lib.hid hFl
  have FN := Lib.hid hN
  have BW1 : Hid (Below B w W1) := Lib.hid (by rw [HB.out] at hb1; exact hb1)
  have hFr : F.length ≤ 1000 := by have := LA.out; omega
  clear cp hF hFl hN hb1
  obtain ⟨C, hC⟩ : ∃ C, W1.heap.size = C := ⟨_, rfl⟩
  have HC := Lib.hid hC
  have hBC : Hid (B ≤ C) := Lib.hid (by have := BW1.out.size; rw [HB.out, hC] at this; exact this)
  clear hC
  go_wp2_with fail
  go_loopw [20, 11] (fun s v wr => ∃ (i : Nat) (u : Value), i ≤ F.length ∧ s = .int .i64 i ∧ u = v ∧ Hid (wr.ownsRow C 3 1 u (semiTo kas kbs has i).length ((semiTo kas kbs has i).map (Value.int .i64))) ∧ Hid (Below C W1 wr)) (fun s _ _ => F.length - (intOf s).toNat)
  case atStart => exact ⟨0, _, Nat.zero_le _, rfl, rfl, Lib.hid (World.ownsRow_nil _ _ _ _), Lib.hid (Below.refl _ _)⟩
  case round =>
    obtain ⟨i, u, hi, rfl, rfl, HO, HL⟩ := hrel
    obtain ⟨W4, rfl⟩ : ∃ x, x = wr := ⟨wr, rfl⟩
    have hC6 : C ≤ W4.heap.size := by have := HL.out.size; rw [HC.out] at this; exact this
    by_cases hlt : i < F.length
    · obtain ⟨pb, po, rfl, _, hpc⟩ := (FS.out.belowB HC.out HL.out).at hlt
      have hfn := FN.out i (by have := FL.out; omega)
      have hnl : (rowsOf kbs (kyAt kas i)).length = (atS F i).2.1.length := by rw [← hfn]; simp [nums]
      have hsl := semiTo_len kas kbs has i
      have SY := fun h => semiTo_yes (kas := kas) (kbs := kbs) (has := has) (m := i) h
      have SN := fun h => semiTo_no (kas := kas) (kbs := kbs) (has := has) (m := i) h
      rw [hnl] at SY SN
      have hxl := (FS.out.2 _ (atS_mem hlt)).2
      clear hfn hnl
      generalize (atS F i).2.1.length = nl at *
      generalize (atS F i).1 = la at *
      generalize (atS F i).2.2 = lc at *
      by_cases hy : 0 < nl
      · cases has
        · have SN' := Lib.hid (SN (by simp [hy]))
          have gt : decide ((0 : Int) < (nl : Int)) = true := decide_eq_true (by omega)
          have gn : decide (0 < nl) = true := decide_eq_true hy
          clear SY SN
          rw [← SN'.out] at HO
          go_wp2_with fail
          go_roundw
          case rel => exact ⟨i + 1, u, by omega, by go_num, rfl, HO, HL⟩
          case measure => simp [intOf]; omega
        · have SY' := Lib.hid (SY (by simp [hy]))
          have gt : decide ((0 : Int) < (nl : Int)) = true := decide_eq_true (by omega)
          have gn : decide (0 < nl) = true := decide_eq_true hy
          clear SY SN
          obtain ⟨M, hM⟩ : ∃ M, semiTo kas kbs true i = M := ⟨_, rfl⟩
          rw [hM] at HO SY' hsl
          clear hM
          go_wp2_with (first | (at_builtin; refine wpList_append_own _ rfl _ _ 23 rfl C 3 i1 (.int .i64 0) 1 8 Try.underlying23 I'.out Z0'.out Z1'.out Z2'.out rfl (by decide) _ _ _ rfl (HO.out.alloc _) ⟨W4.heap.size, 0, none⟩ 1 1 [.int .i64 i] rfl rfl ?p11 ?p21 ?p31 ?p41 ?p51 ?_))
          case p11 => exact cell_one_new W4 _ _
          case p21 => intro u hu; simp at hu; subst hu; rfl
          case p31 => unfold maxLen; omega
          case p41 => omega
          case p51 => simp; omega
          intro v' w2 hown' hgrow _
          have R := app_step hC6 HL.out HO.out hown' hgrow
          have O2 := Lib.hid R.1
          have B2 := Lib.hid R.2
          rw [← SY'.out] at O2
          clear hown' hgrow R hpc
          go_wp2_with fail
          go_roundw
          case rel => exact ⟨i + 1, _, by omega, by go_num, rfl, O2, B2⟩
          case measure => simp [intOf]; omega
      · cases has
        · have SY' := Lib.hid (SY (by simp [hy]))
          have gt : decide ((0 : Int) < (nl : Int)) = false := decide_eq_false (by omega)
          have gn : decide (0 < nl) = false := decide_eq_false hy
          clear SY SN
          obtain ⟨M, hM⟩ : ∃ M, semiTo kas kbs false i = M := ⟨_, rfl⟩
          rw [hM] at HO SY' hsl
          clear hM
          go_wp2_with (first | (at_builtin; refine wpList_append_own _ rfl _ _ 23 rfl C 3 i1 (.int .i64 0) 1 8 Try.underlying23 I'.out Z0'.out Z1'.out Z2'.out rfl (by decide) _ _ _ rfl (HO.out.alloc _) ⟨W4.heap.size, 0, none⟩ 1 1 [.int .i64 i] rfl rfl ?n10 ?n20 ?n30 ?n40 ?n50 ?_))
          case n10 => exact cell_one_new W4 _ _
          case n20 => intro u hu; simp at hu; subst hu; rfl
          case n30 => unfold maxLen; omega
          case n40 => omega
          case n50 => simp; omega
          intro v' w2 hown' hgrow _
          have R := app_step hC6 HL.out HO.out hown' hgrow
          have O2 := Lib.hid R.1
          have B2 := Lib.hid R.2
          rw [← SY'.out] at O2
          clear hown' hgrow R hpc
          go_wp2_with fail
          go_roundw
          case rel => exact ⟨i + 1, _, by omega, by go_num, rfl, O2, B2⟩
          case measure => simp [intOf]; omega
        · have SN' := Lib.hid (SN (by simp [hy]))
          have gt : decide ((0 : Int) < (nl : Int)) = false := decide_eq_false (by omega)
          have gn : decide (0 < nl) = false := decide_eq_false hy
          clear SY SN
          rw [← SN'.out] at HO
          go_wp2_with fail
          go_roundw
          case rel => exact ⟨i + 1, u, by omega, by go_num, rfl, HO, HL⟩
          case measure => simp [intOf]; omega
    · have tl : decide (i < F.length) = false := decide_eq_false hlt
      have hfin : W4.ownsRow C 3 1 u (semiOf kas kbs has).length ((semiOf kas kbs has).map (Value.int .i64)) := by
        have := HO.out
        rw [show i = kas.length by have := FL.out; omega] at this
        exact this
      obtain ⟨a9, c9, rfl, hrow⟩ := row_of_owns hfin
      have HRw := Lib.hid hrow
      clear hfin hrow
      go_wp2_with fail
      go_ret
      exact ⟨a9, c9, rfl, HRw.out, by rw [HB.out]; exact BW1.out.trans (HL.out.mono hBC.out)⟩
set_option maxRecDepth 100000 in
set_option maxHeartbeats 4000000 in
theorem do_join {w : World} {p o : Option Addr} {w1 w2 : Nat} {rs ss : List (List Int)} (hS : Seg w p w1 rs) (hT : Seg w o w2 ss) (a b : Option Addr) (ca cb : Nat) (ka kb : List Int) (hka : Row w a ka) (hkb : Row w b kb) (hal : ka.length ≤ 1000) (hbl : kb.length ≤ 1000) (hw1 : w1 ≤ 1000) (hw2 : w2 ≤ 1000) (hrs : rs.length ≤ 1000) (hss : ss.length ≤ 1000) (m : Int) :
    Calls Try.prog 19 #[.int .i64 m, .pointer p, .pointer o, .slice a ka.length ca, .slice b kb.length cb] w (PairRet w (pairsOf (rs.map fun r => keyL r ka) (ss.map fun r => keyL r kb))) := by
  have cm := merge_join hS hT a b ca cb ka kb hka hkb hal hbl hw1 hw2 hrs hss
  have ch := hash_join hS hT a b ca cb ka kb hka hkb hal hbl hw1 hw2 hrs hss
  by_cases hm : m = 1
  · subst hm
    go_enter Try.func19, Try.ntmps19
    go_wp2_with fail
    refine cm.mono ?_
    rintro e W1 ⟨pa, pc, rfl, h1, h2⟩
    have H1 := Lib.hid h1
    have H2 := Lib.hid h2
    clear h1 h2 cm ch
    go_wp2_with fail
    go_ret
    exact ⟨pa, pc, rfl, H1.out, H2.out⟩
  · have t : (m == 1) = false := by simpa using hm
    go_enter Try.func19, Try.ntmps19
    go_wp2_with fail
    refine ch.mono ?_
    rintro e W1 ⟨pa, pc, rfl, h1, h2⟩
    have H1 := Lib.hid h1
    have H2 := Lib.hid h2
    clear h1 h2 cm ch
    go_wp2_with fail
    go_ret
    exact ⟨pa, pc, rfl, H1.out, H2.out⟩
end Go.Proofs.Ytcecndjkfdaaaaa
