/- JoinParts, walked. -/
import Derived.Test.YtcecndjkfdaaaaaJn21
import Derived.Test.YtcecndjkfdaaaaaJn22
import Derived.Test.YtcecndjkfdaaaaaSg7F
namespace Go.Proofs.Ytcecndjkfdaaaaa
open Go.RowKit Go.Shelf
set_option linter.unusedVariables false
set_option linter.unusedSimpArgs false

theorem maskE (x : Int) (k : Nat) (hk : k ≤ 20) (y : Int) (hy : y = 2 ^ k - 1) : ∃ m : Nat, m < 2 ^ k ∧ bits .and .i64 x y = (m : Int) := by
  have hp : (2 : Nat) ^ k ≤ 2 ^ 20 := Nat.pow_le_pow_right (by omega) hk
  have hp1 : 1 ≤ (2 : Nat) ^ k := Nat.one_le_two_pow
  have hc : ((2 : Int) ^ k) = ((2 ^ k : Nat) : Int) := by simp
  have e : (BitVec.ofInt 64 y).toNat = 2 ^ k - 1 := by
    rw [ofInt_toNat, hy, hc]; omega
  refine ⟨(x % 18446744073709551616).toNat % 2 ^ k, Nat.mod_lt _ (by omega), ?_⟩
  show IntKind.i64.wrap ((BitVec.ofInt 64 x &&& BitVec.ofInt 64 y).toNat : Int) = _
  rw [BitVec.toNat_and, ofInt_toNat, e, Nat.and_two_pow_sub_one_eq_mod, IntKind.wrap_i64]
  have : (x % 18446744073709551616).toNat % 2 ^ k < 2 ^ k := Nat.mod_lt _ (by omega)
  omega
/-- Two lists of rows of the call's own, side by side. -/
structure UL2 (B : Nat) (w : World) (v1 v2 : Value) (L1 L2 : List RV) : Prop where
  u1 : UL B w v1 L1
  u2 : UL B w v2 L2
  ne : ∀ b, v1.ownBlock = some b → v2.ownBlock ≠ some b
  x1 : ∀ x ∈ L1, ∀ p, x.1 = some p → v2.ownBlock ≠ some p.block
  x2 : ∀ x ∈ L2, ∀ p, x.1 = some p → v1.ownBlock ≠ some p.block
theorem UL2.symm {B : Nat} {w : World} {v1 v2 : Value} {L1 L2 : List RV} (h : UL2 B w v1 v2 L1 L2) : UL2 B w v2 v1 L2 L1 := ⟨h.u2, h.u1, fun b h1 h2 => h.ne b h2 h1, h.x2, h.x1⟩
theorem UL2.below {B : Nat} {w w' : World} {v1 v2 : Value} {L1 L2 : List RV} (h : UL2 B w v1 v2 L1 L2) (hb : Below w.heap.size w w') : UL2 B w' v1 v2 L1 L2 := ⟨h.u1.below hb, h.u2.below hb, h.ne, h.x1, h.x2⟩
theorem UL2.push {B : Nat} {w w2 : World} {v1 v2 v' : Value} {L1 L2 : List RV} (h : UL2 B w v1 v2 L1 L2) {x : RV} {o : Obj} (hrow : Row w x.1 x.2.1) (hcap : x.2.1.length ≤ x.2.2) (hf : ∀ p, x.1 = some p → p.block < w.heap.size ∧ v1.ownBlock ≠ some p.block ∧ v2.ownBlock ≠ some p.block)
    (hown : w2.ownsRow B 40 1 v' (L1.length + 1) (L1.map encV ++ [encV x])) (hgrow : (w.alloc o).grownBy w2 v1.ownBlock) (hat : v'.ownBlock = v1.ownBlock ∨ v'.ownBlock = some (w.alloc o).heap.size) : UL2 B w2 v' v2 (L1 ++ [x]) L2 := by
  have k : Keeps (fun b => v1.ownBlock = some b) w w2 := ((Keeps.refl (fun b => v1.ownBlock = some b) w).alloc o).trans (Keeps.of_grown hgrow (fun b hb => hb))
  refine ⟨h.u1.push hrow hcap (fun p hp => ⟨(hf p hp).1, (hf p hp).2.1⟩) hown hgrow hat, h.u2.keeps k (fun b hb hN => h.ne b hN hb) (fun y hy p hp hN => h.x2 y hy p hp hN), fun b hb e => ?_, fun y hy p hp => ?_, fun y hy p hp e => ?_⟩
  · rcases hat with e1 | e1
    · rw [e1] at hb; exact h.ne b hb e
    · rw [e1] at hb; simp at hb; have := (h.u2.own.lt _ e).2; omega
  · rcases List.mem_append.1 hy with h1 | h1
    · exact h.x1 y h1 p hp
    · obtain rfl : y = x := by simpa using h1
      exact (hf p hp).2.2
  · rcases hat with e1 | e1
    · rw [e1] at e; exact h.x2 y hy p hp e
    · rw [e1] at e; simp at e; have := ((h.u2.rows y hy).2 p hp).1; omega
theorem cut_lt {ys : List (List Int)} {i c : Nat} (h : i < ys.length) (hc : i < c) : (ys.take (i + 1)).take c = (ys.take i).take c ++ [rowAt ys i] ∧ (ys.take (i + 1)).drop c = (ys.take i).drop c := by
  refine ⟨?_, ?_⟩
  · rw [List.take_take, List.take_take, Nat.min_eq_right (by omega), Nat.min_eq_right (by omega), List.take_succ_eq_append_getElem h]; simp [rowAt, h]
  · rw [List.drop_of_length_le (by simp; omega), List.drop_of_length_le (by simp; omega)]
theorem cut_ge {ys : List (List Int)} {i c : Nat} (h : i < ys.length) (hc : ¬ i < c) : (ys.take (i + 1)).take c = (ys.take i).take c ∧ (ys.take (i + 1)).drop c = (ys.take i).drop c ++ [rowAt ys i] := by
  refine ⟨?_, ?_⟩
  · rw [List.take_take, List.take_take, Nat.min_eq_left (by omega), Nat.min_eq_left (by omega)]
  · rw [List.take_succ_eq_append_getElem h, List.drop_append_of_le_length (by simp; omega)]; simp [rowAt, h]
theorem UL2.new {C : Nat} {W : World} (hC : W.heap.size = C) : UL2 C ((W.alloc (.cells #[] 40)).alloc (.cells #[] 40)) (.slice (some ⟨C, 0, none⟩) 0 0) (.slice (some ⟨C + 1, 0, none⟩) 0 0) [] [] := by
  subst hC
  refine ⟨(UL.nil _ W (Nat.le_refl _)).below ((Below.refl _ _).alloc (Nat.le_refl _) _), ?_, fun b h1 h2 => ?_, (fun x hx => by cases hx), (fun x hx => by cases hx)⟩
  · have := UL.nil W.heap.size (W.alloc (.cells #[] 40)) (by simp)
    simpa using this
  · simp [Value.ownBlock] at h1 h2; omega
set_option maxRecDepth 100000 in
set_option maxHeartbeats 8000000 in
theorem joinParts_walk {w : World} {a b c d : Option Addr} {A D : List RV} {KA KB : List Int} (wi wj : Int) (ca cb cc cd : Nat) (cut : Int) (hS : SideArgs w a b c d A D KA KB) :
    Calls Try.prog 7 #[sidesV wi wj a b c d A D KA KB ca cb cc cd, .int .i64 cut] w (TrueRet5 w) := by
  obtain ⟨i0, hi, hz0, hz1, hz2⟩ := info_parts info23
  have I := Lib.hid hi
  have Z0 := Lib.hid hz0
  have Z1 := Lib.hid hz1
  have Z2 := Lib.hid hz2
  clear hi hz0 hz1 hz2
  obtain ⟨cu, hcu, ecu⟩ := maskE cut 4 (by omega) 15 (by decide)
  obtain ⟨B, hB⟩ : ∃ B, w.heap.size = B := ⟨_, rfl⟩
  have HB := Lib.hid hB
  have HS := Lib.hid hS
  have J0 := Lib.hid (JS.new hB wi wj ca cb cc cd hS)
  unfold sidesV
  go_enter Try.func7, Try.ntmps7
  go_wp2_with fail
  clear hB hS
  generalize World.alloc w _ = W0 at *
  refine (head8_calls W0).mono ?_
  rintro e W1 ⟨rfl, hb1⟩
  have J1 := Lib.hid (J0.out.next hb1)
  clear hb1 J0
  obtain ⟨c0, c1, c2, c3, c4, c5, _⟩ := J1.out.box
  go_wp2_with fail
  have cf := sidesFew_calls (KA := KA) (KB := KB) (c := c) (d := d) wi wj ca cb cc cd HS.out.hA HS.out.hD HB.out J1.out.bel (Nat.le_of_lt J1.out.box.lt)
  unfold sidesV at cf
  clear c0 c1 c2 c3 c4 c5
  cases hf : sidesFew A D KA KB
  · rw [hf] at cf
    refine cf.mono ?_
    rintro e W2 ⟨rfl, hb2⟩
    have J2 := Lib.hid (J1.out.next hb2)
    clear hb2 J1 cf
    go_wp2_with fail
    go_ret
    exact ⟨rfl, by rw [HB.out]; exact J2.out.bel⟩
  · rw [hf] at cf
    refine cf.mono ?_
    rintro e W2 ⟨rfl, hb2⟩
    have J2 := Lib.hid (J1.out.next hb2)
    obtain ⟨fA, fD, hka, hkb⟩ := sidesFew_true hf
    clear hb2 J1 cf hf
    obtain ⟨c0, c1, c2, c3, c4, c5, _⟩ := J2.out.box
    obtain ⟨n1, hn1, e1⟩ := width5 wi
    obtain ⟨n2, hn2, e2⟩ := width5 wj
    go_wp2_with fail
    have cm := sidesMake_calls (KA := KA) (KB := KB) (c := c) (d := d) wi wj n1 n2 hn1 hn2 e1 e2 ca cb cc cd HS.out.hA HS.out.hD HB.out J2.out.bel (Nat.le_of_lt J2.out.box.lt) (few_ok fA) (few_ok fD)
    unfold sidesV at cm
    clear c0 c1 c2 c3 c4 c5 e1 e2
    generalize relOf (n1 : Int) (A.map (·.2.1)) = xs at *
    generalize relOf (n2 : Int) (D.map (·.2.1)) = ys at *
    refine cm.mono ?_
    rintro e W3 ⟨p, o, rfl, hp3, ho3, hb3⟩
    have J3 := Lib.hid (J2.out.next hb3)
    have P3 := Lib.hid hp3
    have O3 := Lib.hid ho3
    have hxl : xs.length ≤ 60 := hp3.2
    have hyl : ys.length ≤ 60 := ho3.2
    have PL : Hid ((pairsOf (xs.map fun r => keyL r KA) (ys.map fun r => keyL r KB)).length ≤ 3600) := Lib.hid (pairs_le (by simpa using hxl) (by simpa using hyl))
    clear hp3 ho3 hb3 J2 cm
    obtain ⟨C, hC⟩ : ∃ C, W3.heap.size = C := ⟨_, rfl⟩
    have HC := Lib.hid hC
    have T0 := Lib.hid (UL2.new hC)
    have B0 : Hid (Below C W3 ((W3.alloc (.cells #[] 40)).alloc (.cells #[] 40))) := Lib.hid (((Below.refl _ _).alloc (by omega) _).alloc (by simp; omega) _)
    go_wp2_with fail
    clear hC
    generalize World.alloc (World.alloc W3 _) _ = W4 at *
    go_loopw [9, 7, 8] (fun s p q wr => ∃ (i : Nat) (L1 L2 : List RV) (u v : Value), i ≤ ys.length ∧ s = .int .i64 i ∧ u = p ∧ v = q ∧ Hid (UL2 C wr u v L1 L2) ∧ Hid (L1.map (·.2.1) = (ys.take i).take cu) ∧ Hid (L2.map (·.2.1) = (ys.take i).drop cu) ∧ Hid (Below C W3 wr)) (fun s _ _ _ => ys.length - (intOf s).toNat)
    case atStart => exact ⟨0, [], [], _, _, Nat.zero_le _, rfl, rfl, rfl, T0, Lib.hid (by simp), Lib.hid (by simp), B0⟩
    case round =>
      obtain ⟨i, L1, L2, u, v, hi, rfl, rfl, rfl, HU, HL1, HL2, HL⟩ := hrel
      obtain ⟨X, rfl⟩ : ∃ x, x = wr := ⟨wr, rfl⟩
      have hCX : C ≤ X.heap.size := by have := HL.out.size; rw [HC.out] at this; exact this
      have OX := Lib.hid (O3.out.belowB HC.out HL.out)
      have hll : L1.length ≤ 60 ∧ L2.length ≤ 60 := by
        have h1 := congrArg List.length HL1.out
        have h2 := congrArg List.length HL2.out
        simp at h1 h2; omega
      go_wp2_with fail
      refine (segLen_calls OX.out.1).mono ?_
      rintro e w' ⟨rfl, rfl⟩
      by_cases hlt : i < ys.length
      · have HW := Lib.hid (OX.out.1.2.1 _ (rowAt_mem hlt))
        have cr := segRowF_calls OX.out.1 i hlt (by omega) (by omega)
        by_cases hic : i < cu
        · obtain ⟨s1, s2⟩ := cut_lt hlt hic
          have S1 := Lib.hid s1
          have S2 := Lib.hid s2
          clear s1 s2
          have tc : decide ((i : Int) < (cu : Int)) = true := decide_eq_true (by omega)
          generalize rowAt ys i = r at *
          go_wp2_with fail
          refine cr.mono ?_
          rintro e Y ⟨ra, rc, rfl, hr, hcp, hfr, hb⟩
          have U2 := Lib.hid (HU.out.below hb)
          have LY := Lib.hid (HL.out.trans (hb.mono hCX))
          have RY := Lib.hid hr
          have CP := Lib.hid hcp
          have FR : Hid (∀ p, ra = some p → p.block < Y.heap.size ∧ u.ownBlock ≠ some p.block ∧ v.ownBlock ≠ some p.block) := Lib.hid (fun p hp => ⟨(hfr p hp).2, fun e => by have h1 := (HU.out.u1.own.lt _ e).2; have h2 := (hfr p hp).1; omega, fun e => by have h1 := (HU.out.u2.own.lt _ e).2; have h2 := (hfr p hp).1; omega⟩)
          have hCY : C ≤ Y.heap.size := Nat.le_trans hCX hb.size
          clear cr hr hcp hfr hb
          go_wp2_with (first | (at_builtin; refine wpList_append_own_at _ rfl _ _ 22 rfl C 40 i0 (.slice none 0 0) 1 24 Try.underlying22 I.out Z0.out Z1.out Z2.out rfl (by decide) _ _ _ rfl (U2.out.u1.own.alloc _) ⟨Y.heap.size, 0, none⟩ 1 1 [.slice ra r.length rc] rfl rfl ?ca1 ?ca2 ?ca3 ?ca4 ?ca5 ?_))
          case ca1 => exact cell_one_new Y _ _
          case ca2 => intro u hu; simp at hu; subst hu; rfl
          case ca3 => unfold maxLen; omega
          case ca4 => omega
          case ca5 => simp; omega
          intro v1 w7 hown hgrow _ hat
          have U7 := Lib.hid (U2.out.push (x := (ra, r, rc)) RY.out CP.out FR.out hown hgrow (by simpa using hat))
          have B7 := Lib.hid (U2.out.u1.belowW LY.out hCY hgrow)
          clear hown hgrow hat
          go_wp2_with fail
          go_roundw
          case rel => exact ⟨i + 1, _, _, _, _, by omega, by go_num, rfl, rfl, U7, Lib.hid (by rw [List.map_append, HL1.out, S1.out]; rfl), Lib.hid (by rw [HL2.out, S2.out]), B7⟩
          case measure => simp [intOf]; omega
        · obtain ⟨s1, s2⟩ := cut_ge hlt hic
          have S1 := Lib.hid s1
          have S2 := Lib.hid s2
          clear s1 s2
          have tc : decide ((i : Int) < (cu : Int)) = false := decide_eq_false (by omega)
          generalize rowAt ys i = r at *
          go_wp2_with fail
          refine cr.mono ?_
          rintro e Y ⟨ra, rc, rfl, hr, hcp, hfr, hb⟩
          have U2 := Lib.hid (HU.out.below hb).symm
          have LY := Lib.hid (HL.out.trans (hb.mono hCX))
          have RY := Lib.hid hr
          have CP := Lib.hid hcp
          have FR : Hid (∀ p, ra = some p → p.block < Y.heap.size ∧ v.ownBlock ≠ some p.block ∧ u.ownBlock ≠ some p.block) := Lib.hid (fun p hp => ⟨(hfr p hp).2, fun e => by have h1 := (HU.out.u2.own.lt _ e).2; have h2 := (hfr p hp).1; omega, fun e => by have h1 := (HU.out.u1.own.lt _ e).2; have h2 := (hfr p hp).1; omega⟩)
          have hCY : C ≤ Y.heap.size := Nat.le_trans hCX hb.size
          clear cr hr hcp hfr hb
          go_wp2_with (first | (at_builtin; refine wpList_append_own_at _ rfl _ _ 22 rfl C 40 i0 (.slice none 0 0) 1 24 Try.underlying22 I.out Z0.out Z1.out Z2.out rfl (by decide) _ _ _ rfl (U2.out.u1.own.alloc _) ⟨Y.heap.size, 0, none⟩ 1 1 [.slice ra r.length rc] rfl rfl ?cb1 ?cb2 ?cb3 ?cb4 ?cb5 ?_))
          case cb1 => exact cell_one_new Y _ _
          case cb2 => intro u hu; simp at hu; subst hu; rfl
          case cb3 => unfold maxLen; omega
          case cb4 => omega
          case cb5 => simp; omega
          intro v1 w7 hown hgrow _ hat
          have U7 := Lib.hid (U2.out.push (x := (ra, r, rc)) RY.out CP.out FR.out hown hgrow (by simpa using hat)).symm
          have B7 := Lib.hid (U2.out.u1.belowW LY.out hCY hgrow)
          clear hown hgrow hat
          go_wp2_with fail
          go_roundw
          case rel => exact ⟨i + 1, _, _, _, _, by omega, by go_num, rfl, rfl, U7, Lib.hid (by rw [HL1.out, S1.out]), Lib.hid (by rw [List.map_append, HL2.out, S2.out]; rfl), B7⟩
          case measure => simp [intOf]; omega
      · have tl : decide (i < ys.length) = false := decide_eq_false hlt
        have hly := O3.out.1
        have F1 : Hid (L1.map (·.2.1) = ys.take cu) := Lib.hid (by rw [HL1.out, List.take_of_length_le (l := ys) (by omega)])
        have F2 : Hid (L2.map (·.2.1) = ys.drop cu) := Lib.hid (by rw [HL2.out, List.take_of_length_le (l := ys) (by omega)])
        have hlw : ∀ r ∈ ys, r.length = n2 := OX.out.1.2.1
        have E1 : Hid (relOf (n2 : Int) (L1.map (·.2.1)) = ys.take cu) := Lib.hid (by rw [F1.out]; exact rel_self (sorted_take OX.out.1.1 _) (fun r hr => hlw r (List.mem_of_mem_take hr)))
        have E2 : Hid (relOf (n2 : Int) (L2.map (·.2.1)) = ys.drop cu) := Lib.hid (by rw [F2.out]; exact rel_self (sorted_drop OX.out.1.1 _) (fun r hr => hlw r (List.mem_of_mem_drop hr)))
        have W1 : Hid (∀ x ∈ L1, x.2.1.length ≤ 1000000) := Lib.hid (fun x hx => by
          have h1 : x.2.1 ∈ L1.map (·.2.1) := List.mem_map_of_mem hx
          rw [F1.out] at h1
          rw [hlw _ (List.mem_of_mem_take h1)]; omega)
        have W2' : Hid (∀ x ∈ L2, x.2.1.length ≤ 1000000) := Lib.hid (fun x hx => by
          have h1 : x.2.1 ∈ L2.map (·.2.1) := List.mem_map_of_mem hx
          rw [F2.out] at h1
          rw [hlw _ (List.mem_of_mem_drop h1)]; omega)
        have LC : Hid (L1.length = min cu ys.length) := Lib.hid (by have h1 := congrArg List.length F1.out; simpa using h1)
        obtain ⟨ua, uc, rfl, hR1⟩ := HU.out.u1.rrow
        obtain ⟨va, vc, rfl, hR2⟩ := HU.out.u2.rrow
        have R1 := Lib.hid hR1
        have R2 := Lib.hid hR2
        have JX := Lib.hid (J3.out.belowB HC.out HL.out)
        have PX := Lib.hid (P3.out.belowB HC.out HL.out)
        clear hR1 hR2 hly hlw HU T0 B0
        have cm1 := make_calls n2 ua uc L1 X R1.out (by omega) (by omega) W1.out
        rw [E1.out] at cm1
        have cw1 := segWidth_calls OX.out.1
        go_wp2_with fail
        refine cw1.mono ?_
        rintro e w' ⟨rfl, rfl⟩
        go_wp2_with fail
        refine cm1.mono ?_
        rintro e Y ⟨py, rfl, hsy, hby⟩
        have SY : Hid (SB 60 Y py n2 (ys.take cu)) := Lib.hid ⟨hsy, by simp; omega⟩
        have RY2 := Lib.hid (R2.out.below hby)
        have JY := Lib.hid (JX.out.next hby)
        have PY := Lib.hid (PX.out.below hby)
        have OY := Lib.hid (OX.out.below hby)
        clear cm1 cw1 hsy hby R1 R2 JX PX OX
        have cm2 := make_calls n2 va vc L2 Y RY2.out (by omega) (by omega) W2'.out
        rw [E2.out] at cm2
        have cw2 := segWidth_calls OY.out.1
        go_wp2_with fail
        refine cw2.mono ?_
        rintro e w' ⟨rfl, rfl⟩
        go_wp2_with fail
        refine cm2.mono ?_
        rintro e Z ⟨pz, rfl, hsz, hbz⟩
        have SZ : Hid (SB 60 Z pz n2 (ys.drop cu)) := Lib.hid ⟨hsz, by simp; omega⟩
        have SY2 := Lib.hid (SY.out.below hbz)
        have JZ := Lib.hid (JY.out.next hbz)
        have PZ := Lib.hid (PY.out.below hbz)
        have OZ := Lib.hid (OY.out.below hbz)
        clear cm2 cw2 hsz hbz JY PY OY RY2 SY
        have PA : Hid (pairsOf (xs.map fun r => keyL r KA) ((ys.take cu).map fun r => keyL r KB) = (pairsOf (xs.map fun r => keyL r KA) (ys.map fun r => keyL r KB)).filter (fstB L1.length) ∧ (pairsOf (xs.map fun r => keyL r KA) ((ys.drop cu).map fun r => keyL r KB)).map (shiftP L1.length) = (pairsOf (xs.map fun r => keyL r KA) (ys.map fun r => keyL r KB)).filter (sndB L1.length)) := Lib.hid (by
          have e1 : (ys.take cu).map (fun r => keyL r KB) = (ys.map fun r => keyL r KB).take L1.length := by
            rw [LC.out, List.map_take]
            by_cases h : cu ≤ ys.length
            · rw [Nat.min_eq_left h]
            · rw [Nat.min_eq_right (by omega), List.take_of_length_le (by simp; omega), List.take_of_length_le (by simp)]
          have e2 : (ys.drop cu).map (fun r => keyL r KB) = (ys.map fun r => keyL r KB).drop L1.length := by
            rw [LC.out, List.map_drop]
            by_cases h : cu ≤ ys.length
            · rw [Nat.min_eq_left h]
            · rw [Nat.min_eq_right (by omega), List.drop_of_length_le (by simp; omega), List.drop_of_length_le (by simp)]
          rw [e1, e2]
          exact parts_are _ _ (by rw [LC.out]; simp; omega))
        obtain ⟨c0, c1, c2, c3, c4, c5, _⟩ := JZ.out.box
        have cg := merge_join PZ.out.1 OZ.out.1 c d cc cd KA KB JZ.out.ka JZ.out.kb (by omega) (by omega) (by omega) (by omega) (by omega) (by omega)
        go_wp2_with fail
        refine cg.mono ?_
        rintro e V1 ⟨ta, tc, rfl, hr1, hb1⟩
        have J4 := Lib.hid (JZ.out.next hb1)
        have P4 := Lib.hid (PZ.out.below hb1)
        have Y4 := Lib.hid (SY2.out.below hb1)
        have Z4 := Lib.hid (SZ.out.below hb1)
        have T4 := Lib.hid hr1
        clear hr1 hb1 JZ PZ OZ SY2 SZ cg c0 c1 c2 c3 c4 c5
        obtain ⟨c0, c1, c2, c3, c4, c5, _⟩ := J4.out.box
        have ch := hash_join P4.out.1 Y4.out.1 c d cc cd KA KB J4.out.ka J4.out.kb (by omega) (by omega) (by omega) (by omega) (by omega) (by have := Y4.out.2; omega)
        rw [PA.out.1] at ch
        go_wp2_with fail
        refine ch.mono ?_
        rintro e V2 ⟨oa, oc, rfl, hr2, hb2⟩
        have J5 := Lib.hid (J4.out.next hb2)
        have P5 := Lib.hid (P4.out.below hb2)
        have Z5 := Lib.hid (Z4.out.below hb2)
        have T5 := Lib.hid (T4.out.below hb2)
        have O5 := Lib.hid hr2
        clear hr2 hb2 J4 P4 Y4 Z4 T4 ch c0 c1 c2 c3 c4 c5
        obtain ⟨c0, c1, c2, c3, c4, c5, _⟩ := J5.out.box
        have cg := merge_join P5.out.1 Z5.out.1 c d cc cd KA KB J5.out.ka J5.out.kb (by omega) (by omega) (by omega) (by omega) (by omega) (by have := Z5.out.2; omega)
        have QL : Hid ((pairsOf (xs.map fun r => keyL r KA) ((ys.drop cu).map fun r => keyL r KB)).length = ((pairsOf (xs.map fun r => keyL r KA) (ys.map fun r => keyL r KB)).filter (sndB L1.length)).length) := Lib.hid (by rw [← PA.out.2]; simp)
        have QA : Hid (∀ k, k < (pairsOf (xs.map fun r => keyL r KA) ((ys.drop cu).map fun r => keyL r KB)).length → atP ((pairsOf (xs.map fun r => keyL r KA) (ys.map fun r => keyL r KB)).filter (sndB L1.length)) k = ((atP (pairsOf (xs.map fun r => keyL r KA) ((ys.drop cu).map fun r => keyL r KB)) k).1, (atP (pairsOf (xs.map fun r => keyL r KA) ((ys.drop cu).map fun r => keyL r KB)) k).2 + L1.length)) := Lib.hid (fun k hk => by rw [← PA.out.2]; exact atP_map _ hk)
        have TB : Hid (∀ k, k < (pairsOf (xs.map fun r => keyL r KA) ((ys.drop cu).map fun r => keyL r KB)).length → 0 ≤ (atP (pairsOf (xs.map fun r => keyL r KA) ((ys.drop cu).map fun r => keyL r KB)) k).2 ∧ (atP (pairsOf (xs.map fun r => keyL r KA) ((ys.drop cu).map fun r => keyL r KB)) k).2 ≤ 60) := Lib.hid (fun k hk => by
          obtain ⟨i9, j9, _, hj9, _, e9⟩ := mem_pairs.1 (atP_mem hk)
          rw [e9]
          simp at hj9
          simp; omega)
        have hcn : L1.length ≤ 60 := hll.1
        go_wp2_with fail
        refine cg.mono ?_
        rintro e V3 ⟨sa, sc, rfl, hr3, hb3⟩
        have B6 : Hid (Below B w V3) := Lib.hid (J5.out.next hb3).bel
        have T6 := Lib.hid (T5.out.below hb3)
        have O6 := Lib.hid (O5.out.below hb3)
        have S6 := Lib.hid hr3
        clear hr3 hb3 J5 P5 Z5 T5 O5 cg c0 c1 c2 c3 c4 c5 PA LC W1 W2' E1 E2 F1 F2 HL1 HL2
        generalize pairsOf (xs.map fun r => keyL r KA) (ys.map fun r => keyL r KB) = ps at *
        generalize pairsOf (xs.map fun r => keyL r KA) ((ys.drop cu).map fun r => keyL r KB) = ts at *
        generalize L1.length = cn at *
        have hpl := PL.out
        have FL : Hid ((ps.filter (fstB cn)).length = cntP (fstB cn) ps ps.length) := Lib.hid (cntP_all _ _).symm
        have GL : Hid (ts.length = cntP (sndB cn) ps ps.length) := Lib.hid (by rw [QL.out]; exact (cntP_all _ _).symm)
        have hol : (ps.filter (fstB cn)).length ≤ 3600 := Nat.le_trans (List.length_filter_le _ _) hpl
        have htl : ts.length ≤ 3600 := by rw [QL.out]; exact Nat.le_trans (List.length_filter_le _ _) hpl
        have Y1 : Hid (∀ k, k < ps.length → (atP ps k).2 < (cn : Int) → cntP (fstB cn) ps (k + 1) = cntP (fstB cn) ps k + 1 ∧ cntP (fstB cn) ps k < (ps.filter (fstB cn)).length ∧ atP (ps.filter (fstB cn)) (cntP (fstB cn) ps k) = atP ps k ∧ cntP (sndB cn) ps (k + 1) = cntP (sndB cn) ps k) := Lib.hid (fun k hk h => by
          obtain ⟨h1, h2, h3⟩ := cntP_yes (f := fstB cn) hk (by simp [fstB, h])
          exact ⟨h1, h2, h3, cntP_no hk (by simp [sndB, h])⟩)
        have Y2 : Hid (∀ k, k < ps.length → ¬ (atP ps k).2 < (cn : Int) → cntP (sndB cn) ps (k + 1) = cntP (sndB cn) ps k + 1 ∧ cntP (sndB cn) ps k < ts.length ∧ (atP ts (cntP (sndB cn) ps k)).1 = (atP ps k).1 ∧ (atP ts (cntP (sndB cn) ps k)).2 + (cn : Int) = (atP ps k).2 ∧ cntP (fstB cn) ps (k + 1) = cntP (fstB cn) ps k) := Lib.hid (fun k hk h => by
          obtain ⟨h1, h2, h3⟩ := cntP_yes (f := sndB cn) hk (by simp [sndB]; omega)
          rw [← QL.out] at h2
          have h4 := QA.out _ h2
          rw [h4] at h3
          exact ⟨h1, h2, (Prod.ext_iff.1 h3).1, (Prod.ext_iff.1 h3).2, cntP_no hk (by simp [fstB]; omega)⟩)
        clear QA QL
        generalize ps.filter (fstB cn) = os at *
        obtain ⟨E, hE⟩ : ∃ E, V3.heap.size = E := ⟨_, rfl⟩
        have HE := Lib.hid hE
        clear hE
        go_wp2_with fail
        go_loopw [84, 15, 16] (fun s p q wr => ∃ k i j : Nat, k ≤ ps.length ∧ s = .int .i64 k ∧ p = .int .i64 i ∧ q = .int .i64 j ∧ i ≤ 3600 ∧ j ≤ 3600 ∧ Hid (i = cntP (fstB cn) ps k) ∧ Hid (j = cntP (sndB cn) ps k) ∧ Hid (Below E V3 wr)) (fun s _ _ _ => ps.length - (intOf s).toNat)
        case atStart => exact ⟨0, 0, 0, Nat.zero_le _, rfl, rfl, rfl, by omega, by omega, Lib.hid rfl, Lib.hid rfl, Lib.hid (Below.refl _ _)⟩
        case round =>
          obtain ⟨k, i2, j2, hk, rfl, rfl, rfl, hi2, hj2, HI, HJ, HM⟩ := hrel
          obtain ⟨X2, rfl⟩ : ∃ x, x = wr := ⟨wr, rfl⟩
          have hEX : E ≤ X2.heap.size := by have := HM.out.size; rw [HE.out] at this; exact this
          by_cases hlt2 : k < ps.length
          · obtain ⟨qb, qo, rfl, _, hp1, hp2⟩ := (T6.out.belowB HE.out HM.out).at hlt2
            by_cases hfc : (atP ps k).2 < (cn : Int)
            · obtain ⟨z1, z2, z3, z4⟩ := Y1.out k hlt2 hfc
              rw [← HI.out] at z1 z2 z3
              rw [← HJ.out] at z4
              have G1 := Lib.hid z1
              have G4 := Lib.hid z4
              obtain ⟨rb, ro, rfl, hrl, hq1, hq2⟩ := (O6.out.belowB HE.out HM.out).at z2
              rw [z3] at hq1 hq2
              generalize (atP ps k).1 = px at *
              generalize (atP ps k).2 = py at *
              have ne1 : ¬ rb = X2.heap.size := by omega
              have ne2 : ¬ X2.heap.size = rb := by omega
              have tf : decide (py < (cn : Int)) = true := decide_eq_true hfc
              have t3 : decide (os.length ≤ i2) = false := decide_eq_false (by omega)
              have B7 : Hid (∀ q, Below E V3 ((X2.alloc (.cells #[.int .i64 px, .int .i64 py] 36)).drewN q)) := Lib.hid (fun q => below_drewN (HM.out.alloc hEX _) q)
              clear z1 z3 z4
              go_wp2_with fail
              go_quiet (fail)
              rename_i qd
              go_wp2_with fail
              go_roundw
              case rel => exact ⟨k + 1, i2 + 1, j2, by omega, by go_num, by go_num, rfl, by omega, by omega, Lib.hid G1.out.symm, Lib.hid G4.out.symm, Lib.hid (B7.out _)⟩
              case measure => simp [intOf]; omega
            · obtain ⟨z1, z2, z3, z4, z5⟩ := Y2.out k hlt2 (by omega)
              rw [← HJ.out] at z1 z2 z3 z4
              rw [← HI.out] at z5
              have G1 := Lib.hid z1
              have G5 := Lib.hid z5
              obtain ⟨rb, ro, rfl, hrl, hq1, hq2⟩ := (S6.out.belowB HE.out HM.out).at z2
              rw [z3] at hq1
              have htb := TB.out _ z2
              generalize (atP ps k).1 = px at *
              generalize (atP ts j2).2 = ty at *
              rw [← z4] at hp2 hfc
              have tf : decide (ty + (cn : Int) < (cn : Int)) = false := decide_eq_false hfc
              have ne1 : ¬ rb = X2.heap.size := by omega
              have ne2 : ¬ X2.heap.size = rb := by omega
              have t3 : decide (ts.length ≤ j2) = false := decide_eq_false (by omega)
              have B7 : Hid (∀ q, Below E V3 ((X2.alloc (.cells #[.int .i64 px, .int .i64 (ty + (cn : Int))] 36)).drewN q)) := Lib.hid (fun q => below_drewN (HM.out.alloc hEX _) q)
              clear z1 z3 z4 z5
              go_wp2_with fail
              go_quiet (fail)
              rename_i qd
              go_wp2_with fail
              go_roundw
              case rel => exact ⟨k + 1, i2, j2 + 1, by omega, by go_num, rfl, by go_num, by omega, by omega, Lib.hid G5.out.symm, Lib.hid G1.out.symm, Lib.hid (B7.out _)⟩
              case measure => simp [intOf]; omega
          · have tl2 : decide (k < ps.length) = false := decide_eq_false hlt2
            obtain rfl : k = ps.length := by omega
            have e1 : i2 = os.length := by rw [HI.out, FL.out]
            have e2 : j2 = ts.length := by rw [HJ.out, GL.out]
            subst e1 e2
            have BF : Hid (Below B w X2) := Lib.hid (B6.out.trans (HM.out.mono (by have := B6.out.size; rw [HB.out, HE.out] at this; exact this)))
            go_wp2_with fail
            go_ret
            exact ⟨rfl, by rw [HB.out]; exact BF.out⟩
end Go.Proofs.Ytcecndjkfdaaaaa
