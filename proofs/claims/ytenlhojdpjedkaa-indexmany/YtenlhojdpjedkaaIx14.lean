/- The walk of IndexMany. Written by mkix10.py. -/
import Derived.Test.YtenlhojdpjedkaaIx11
import Derived.Test.YtenlhojdpjedkaaUl
namespace Go.Proofs.Ytenlhojdpjedkaa
open Go.RowKit
set_option linter.unusedVariables false
set_option linter.unusedSimpArgs false

theorem maskE (x : Int) (k : Nat) (hk : k ≤ 20) (y : Int) (hy : y = 2 ^ k - 1) : ∃ m : Nat, m < 2 ^ k ∧ bits .and .i64 x y = (m : Int) := by
  have hp : (2 : Nat) ^ k ≤ 2 ^ 20 := Nat.pow_le_pow_right (by omega) hk
  have hp1 : 1 ≤ (2 : Nat) ^ k := Nat.one_le_two_pow
  have hc : ((2 : Int) ^ k) = ((2 ^ k : Nat) : Int) := by simp
  have e : (BitVec.ofInt 64 y).toNat = 2 ^ k - 1 := by
    rw [ofInt_toNat, hy, hc]; omega
  refine ⟨(x % 18446744073709551616).toNat % 2 ^ k, Nat.mod_lt _ (by omega), ?_⟩
  show IntKind.i64.wrap ((BitVec.ofInt 64 x &&& BitVec.ofInt 64 y).toNat : Int) = _
  rw [BitVec.toNat_and, ofInt_toNat, e, Nat.and_two_pow_sub_one_eq_mod, IntKind.wrap_i64]
  have : (x % 18446744073709551616).toNat % 2 ^ k < 2 ^ k := Nat.mod_lt _ (by omega)
  omega
/-- The number of row i; the rows; their keys. -/
def valM (md st i : Nat) : Int := (((i % md) * st * 1048576 : Nat) : Int)
def rowM (md st i : Nat) : List Int := [(i : Int), valM md st i]
def rowsM (md st n : Nat) : List (List Int) := (List.range n).map (rowM md st)
theorem rowsM_succ (md st i : Nat) : rowsM md st (i + 1) = rowsM md st i ++ [rowM md st i] := by simp [rowsM, List.range_succ]
theorem rowsM_sorted (md st n : Nat) : SortedR (rowsM md st n) := by
  unfold SortedR rowsM
  rw [List.pairwise_map]
  refine List.Pairwise.imp_of_mem (fun _ _ h => ?_) (List.pairwise_lt_range (n := n))
  rename_i a b _ _
  unfold rowM
  rw [cmpR_cons, if_pos (by omega)]
  decide
theorem rowsM_rel (md st n : Nat) : relOf ((2 : Nat) : Int) (rowsM md st n) = rowsM md st n :=
  (rel_unique (rowsM_sorted md st n) (fun x => ⟨fun h => ⟨h, by
    obtain ⟨i, _, rfl⟩ := List.mem_map.1 h
    rfl⟩, fun h => h.1⟩)).symm
def kysM (md st n : Nat) : List (List Int) := (List.range n).map fun i => [valM md st i]
theorem rowsM_keys (md st n : Nat) : (rowsM md st n).map (fun r => keyL r [1]) = kysM md st n := by
  unfold rowsM kysM
  rw [List.map_map]
  apply List.map_congr_left
  intro i _
  simp [keyL, rowM]
theorem kysM_len (md st n : Nat) : (kysM md st n).length = n := by simp [kysM]
theorem kysM_at {md st n i : Nat} (h : i < n) : kyAt (kysM md st n) i = [valM md st i] := by simp [kyAt, kysM, h]
theorem valM_inj {md st : Nat} (hst : 1 ≤ st) (i j : Nat) : valM md st i = valM md st j ↔ i % md = j % md := by
  unfold valM
  constructor
  · intro h
    have h1 : (i % md) * st * 1048576 = (j % md) * st * 1048576 := by omega
    have h2 : (i % md) * st = (j % md) * st := by omega
    exact Nat.eq_of_mul_eq_mul_right (by omega) h2
  · intro h; rw [h]
theorem valM_nn (md st i : Nat) : 0 ≤ valM md st i := by unfold valM; omega
theorem dstM {md st n : Nat} (hst : 1 ≤ st) (hmd : 1 ≤ md) : dst (kysM md st n) = min n md := by
  have h := dst_nodup (l := kysM md st n) (m := (List.range (min n md)).map fun i => [valM md st i]) ?_ ?_
  · rw [← h]; simp
  · rw [List.nodup_iff_pairwise_ne, List.pairwise_map]
    refine List.Pairwise.imp_of_mem (fun {a b} ha hb h => ?_) (List.pairwise_lt_range (n := min n md))
    rw [List.mem_range] at ha hb
    intro e
    have e1 : valM md st a = valM md st b := by simpa using e
    rw [valM_inj hst, Nat.mod_eq_of_lt (by omega), Nat.mod_eq_of_lt (by omega)] at e1
    omega
  · intro x
    unfold kysM
    rw [List.mem_map, List.mem_map]
    constructor
    · rintro ⟨i, hi, rfl⟩
      rw [List.mem_range] at hi
      exact ⟨i, List.mem_range.2 (by omega), rfl⟩
    · rintro ⟨i, hi, rfl⟩
      rw [List.mem_range] at hi
      have h1 : i % md < md := Nat.mod_lt _ (by omega)
      have h2 : i % md ≤ i := Nat.mod_le _ _
      exact ⟨i % md, List.mem_range.2 (by omega), by rw [(valM_inj hst (i % md) i).2 (Nat.mod_mod _ _)]⟩
theorem mod_next {i j md : Nat} (h1 : i < j) (h2 : j < i + md) : j % md ≠ i % md := by
  intro e
  have h3 := Nat.div_add_mod i md
  have h4 := Nat.div_add_mod j md
  rw [e] at h4
  have h5 : md * (j / md) = md * (i / md) + (j - i) := by omega
  have h6 : j / md = i / md := by
    rcases Nat.lt_trichotomy (j / md) (i / md) with h | h | h
    · have := Nat.mul_le_mul_left md (Nat.le_of_lt h); omega
    · exact h
    · have := Nat.mul_le_mul_left md (show i / md + 1 ≤ j / md from h); rw [Nat.mul_add] at this; omega
  rw [h6] at h5; omega
theorem stepM {md st n i a : Nat} (hst : 1 ≤ st) (hmd : 1 ≤ md) (hi : i < n) (ha : i % md = a % md) :
    (rowsTo (kysM md st n) [valM md st a] (min (i + md) n)).length = (rowsTo (kysM md st n) [valM md st a] (min i n)).length + 1 := by
  have hk : kyAt (kysM md st n) i = [valM md st a] := by rw [kysM_at hi, (valM_inj hst i a).2 ha]
  rw [rowsTo_skip (m := i + 1) (m' := min (i + md) n) (by omega) (fun j h1 h2 e => ?_), rowsTo_hit hk, Nat.min_eq_left (by omega), List.length_append]
  · rfl
  · rw [kysM_at (by omega)] at e
    have e1 : valM md st j = valM md st a := by simpa using e
    rw [valM_inj hst, ← ha] at e1
    exact mod_next (by omega) (by omega) e1
theorem startM {md st n a : Nat} (hst : 1 ≤ st) (hmd : 1 ≤ md) : (rowsTo (kysM md st n) [valM md st a] (min (a % md) n)).length = 0 := by
  rw [rowsTo_skip (m := 0) (by omega) (fun j h1 h2 e => ?_)]
  · rfl
  · rw [kysM_at (by omega)] at e
    have e1 : valM md st j = valM md st a := by simpa using e
    have hlt : a % md < md := Nat.mod_lt _ (by omega)
    rw [valM_inj hst, Nat.mod_eq_of_lt (by omega)] at e1
    omega
theorem noneM (md st n : Nat) : ints (rowsOf (kysM md st n) [-1]) = [] := by
  unfold rowsOf
  rw [rowsTo_skip (m := 0) (by omega) (fun j h1 h2 e => ?_)]
  · rfl
  · rw [kysM_len] at h2
    rw [kysM_at h2] at e
    have e1 : valM md st j = -1 := by simpa using e
    have := valM_nn md st j
    omega
theorem atM {md st n i a : Nat} (hst : 1 ≤ st) (hi : i < n) (ha : i % md = a % md) : (rowsTo (kysM md st n) [valM md st a] i).length < (ints (rowsOf (kysM md st n) [valM md st a])).length ∧ (ints (rowsOf (kysM md st n) [valM md st a]))[(rowsTo (kysM md st n) [valM md st a] i).length]?.getD 0 = (i : Int) :=
  rowsOf_at (by rw [kysM_len]; exact hi) (by rw [kysM_at hi, (valM_inj hst i a).2 ha])
theorem tmodN (i md : Nat) : (i : Int).tmod (md : Int) = ((i % md : Nat) : Int) := by rw [Int.tmod_eq_emod_of_nonneg (by omega)]; simp
set_option maxRecDepth 100000 in
set_option maxHeartbeats 4000000 in
theorem many_A (x0 x1 x2 x3 : Int) (n m1 s1 at_ : Nat) (hn : n < 512) (hm1 : m1 < 256) (hs1 : s1 < 65536) (hat : at_ < 512) (e0 : bits .and .i64 x0 511 = (n : Int)) (e1 : bits .and .i64 x1 255 = (m1 : Int)) (e2 : bits .and .i64 x2 65535 = (s1 : Int)) (e3 : bits .and .i64 x3 511 = (at_ : Int)) (md st : Nat) (em : (1 : Int) + (m1 : Int) = (md : Int)) (es : (1 : Int) + (s1 : Int) = (st : Int)) (hmin : (n : Int) ≤ (md : Int)) (w : World) :
    Calls Try.prog 4 #[.int .i64 x0, .int .i64 x1, .int .i64 x2, .int .i64 x3] w (TrueRet5 w) := by
  have hmd : md ≤ 256 ∧ 1 ≤ md := by omega
  have hst : st ≤ 65536 ∧ 1 ≤ st := by omega
  obtain ⟨B, hB⟩ : ∃ B, w.heap.size = B := ⟨_, rfl⟩
  have HB := Lib.hid hB
  obtain ⟨i0, hi0, hz0, hz1, hz2⟩ := info_parts info24
  have I := Lib.hid hi0
  have Z0 := Lib.hid hz0
  have Z1 := Lib.hid hz1
  have Z2 := Lib.hid hz2
  clear hi0 hz0 hz1 hz2 hB
  go_enter Try.func4, Try.ntmps4
  go_wp2_with fail
  refine (head7_calls _).mono ?_
  rintro e W0 ⟨rfl, hbh⟩
  rw [HB.out] at hbh
  have BW0 := Lib.hid hbh
  clear hbh
  go_wp2_with fail
  obtain ⟨C, hC⟩ : ∃ C, W0.heap.size = C := ⟨_, rfl⟩
  have HC := Lib.hid hC
  have hBC : Hid (B ≤ C) := Lib.hid (by have := BW0.out.size; rw [HB.out, hC] at this; exact this)
  have T0 : Hid (UL C (W0.alloc (.cells #[] 24)) (.slice (some ⟨W0.heap.size, 0, none⟩) 0 0) []) := Lib.hid (UL.nil C W0 (Nat.le_of_eq hC.symm))
  have B0 : Hid (Below C W0 (W0.alloc (.cells #[] 24))) := Lib.hid ((Below.refl _ _).alloc (Nat.le_of_eq hC.symm) _)
  rw [hC] at T0 ⊢
  clear hC
  generalize World.alloc W0 _ = w5 at *
  generalize Value.slice (some ⟨C, 0, none⟩) 0 0 = v0 at *
  go_loopw [10, 9] (fun s v wr => ∃ (i : Nat) (L : List RV) (u : Value), i ≤ n ∧ s = .int .i64 i ∧ u = v ∧ Hid (L.length = i) ∧ Hid (UL C wr u L) ∧ Hid (L.map (·.2.1) = rowsM md st i) ∧ Hid (Below C W0 wr)) (fun s _ _ => n - (intOf s).toNat)
  case atStart => exact ⟨0, [], v0, Nat.zero_le _, rfl, rfl, Lib.hid rfl, T0, Lib.hid rfl, B0⟩
  case round =>
    obtain ⟨i, L, u, hi, rfl, rfl, HLi, U, HR, HL⟩ := hrel
    have hCr : C ≤ wr.heap.size := by have := HL.out.size; rw [HC.out] at this; exact this
    by_cases hlt : i < n
    · have er := tmodN i md
      have hr : i % md < md := Nat.mod_lt _ (by omega)
      have ep : ((i % md : Nat) : Int) * (st : Int) = ((i % md * st : Nat) : Int) := by simp
      have hp : i % md * st ≤ 255 * 65536 := Nat.mul_le_mul (by omega) hst.1
      have HV : Hid (valM md st i = ((i % md * st : Nat) : Int) * 1048576) := Lib.hid (by unfold valM; omega)
      have HRM : Hid (rowM md st i = [(i : Int), ((i % md * st : Nat) : Int) * 1048576]) := Lib.hid (by unfold rowM; rw [HV.out])
      generalize i % md * st = pr at *
      generalize i % md = r at *
      have hLi : L.length ≤ 512 := by have := HLi.out; omega
      have RW : Hid (Row (wr.alloc (.cells #[.int .i64 i, .int .i64 ((pr : Int) * 1048576)] 2)) (some ⟨wr.heap.size, 0, none⟩) [(i : Int), (pr : Int) * 1048576]) := Lib.hid (row2 (by go_simp) (by go_simp) (by simp))
      have U2 := Lib.hid (U.out.below ((Below.refl wr.heap.size wr).alloc (Nat.le_refl _) (.cells #[.int .i64 i, .int .i64 ((pr : Int) * 1048576)] 2)))
      have L2 := Lib.hid (HL.out.alloc hCr (.cells #[.int .i64 i, .int .i64 ((pr : Int) * 1048576)] 2))
      have FR : Hid (∀ p : Addr, some (⟨wr.heap.size, 0, none⟩ : Addr) = some p → p.block < (wr.alloc (.cells #[.int .i64 i, .int .i64 ((pr : Int) * 1048576)] 2)).heap.size ∧ u.ownBlock ≠ some p.block) := Lib.hid (fun p hp => by
        cases hp
        refine ⟨by simp, fun e => ?_⟩
        have := (U.out.own.lt _ e).2
        simp at this)
      go_wp2_with (first | (at_builtin; refine wpList_append_own_at _ rfl _ _ 22 rfl C 24 i0 (.slice none 0 0) 1 24 Try.underlying22 I.out Z0.out Z1.out Z2.out rfl (by decide) _ _ _ rfl (U2.out.own.alloc _) ⟨wr.heap.size + 1, 0, none⟩ 1 1 [.slice (some ⟨wr.heap.size, 0, none⟩) 2 2] rfl rfl ?c1 ?c2 ?c3 ?c4 ?c5 ?_))
      case c1 => have := cell_one_new (wr.alloc (.cells #[.int .i64 i, .int .i64 ((pr : Int) * 1048576)] 2)) (.slice (some ⟨wr.heap.size, 0, none⟩) 2 2) 24; simpa using this
      case c2 => intro u hu; simp at hu; subst hu; rfl
      case c3 => unfold maxLen; omega
      case c4 => omega
      case c5 => simp; omega
      intro v1 w7 hown hgrow _ hat7
      have U7 := Lib.hid (U2.out.push (x := (some ⟨wr.heap.size, 0, none⟩, [(i : Int), (pr : Int) * 1048576], 2)) RW.out (by simp) FR.out hown hgrow (by simpa using hat7))
      have B7 := Lib.hid (U2.out.belowW L2.out (by simp; omega) hgrow)
      clear hown hgrow hat7
      go_wp2_with fail
      go_roundw
      case rel => exact ⟨i + 1, _, _, by omega, by go_num, rfl, Lib.hid (by rw [List.length_append, HLi.out]; rfl), U7, Lib.hid (by rw [List.map_append, HR.out, rowsM_succ, HRM.out]; rfl), B7⟩
      case measure => simp [intOf]; omega
    · obtain rfl : i = n := by omega
      have tl : decide (i < i) = false := decide_eq_false hlt
      obtain ⟨W1, rfl⟩ : ∃ x, x = wr := ⟨wr, rfl⟩
      have BW1 := Lib.hid (BW0.out.trans (HL.out.mono hBC.out))
      obtain ⟨ua, uc, rfl, hRR⟩ := U.out.rrow
      have hL5 : L.length ≤ 1000 := by have := HLi.out; omega
      have cm := make_calls 2 ua uc L W1 hRR (by omega) hL5 (fun x hx => by
        have h1 : x.2.1 ∈ L.map (·.2.1) := List.mem_map_of_mem hx
        rw [HR.out] at h1
        obtain ⟨j, _, hj⟩ := List.mem_map.1 h1
        rw [← hj]; simp [rowM])
      rw [HR.out, rowsM_rel] at cm
      clear hRR hBC HL B0 T0 hL5
      go_wp2_with fail
      refine (cm).mono ?_
      rintro e W2 ⟨p, rfl, hs, hb⟩
      have BW2 := Lib.hid (BW1.out.trans (hb.mono (show B ≤ W1.heap.size by have := BW1.out.size; rw [HB.out] at this; exact this)))
      have S := Lib.hid hs
      clear hb BW1 hs
      clear cm
      go_wp2_with fail
      have QN : Hid (Row (W2.alloc (.cells #[.int .i64 1] 3)) (some ⟨W2.heap.size, 0, none⟩) [1]) := Lib.hid (row1_new W2 1 3)
      have hb : Below W2.heap.size W2 (W2.alloc (.cells #[.int .i64 1] 3)) := (Below.refl _ _).alloc (Nat.le_refl _) _
      replace S := Lib.hid (S.out.below hb)
      have BW3 := Lib.hid (BW2.out.trans (hb.mono (show B ≤ W2.heap.size by have := BW2.out.size; rw [HB.out] at this; exact this)))
      clear hb BW2
      generalize World.alloc _ _ = W3 at *
      generalize W2.heap.size = n2 at *
      have cb := build_calls S.out _ 1 [1] QN.out (by simp) (by omega) (by simp [rowsM]; omega)
      rw [rowsM_keys] at cb
      refine (cb).mono ?_
      rintro e W4 ⟨g, rfl, hx, hb⟩
      clear QN
      clear S
      have BW4 := Lib.hid (BW3.out.trans (hb.mono (show B ≤ W3.heap.size by have := BW3.out.size; rw [HB.out] at this; exact this)))
      have X := Lib.hid hx
      clear hb BW3 hx
      clear cb
      have cl := ix_len X.out
      have DD : dst (kysM md st i) = i := by rw [dstM hst.2 hmd.2]; omega
      rw [DD] at cl
      clear DD
      have er := tmodN at_ md
      have hr : at_ % md < md := Nat.mod_lt _ (by omega)
      have ep : ((at_ % md : Nat) : Int) * (st : Int) = ((at_ % md * st : Nat) : Int) := by simp
      have hp : at_ % md * st ≤ 255 * 65536 := Nat.mul_le_mul (by omega) hst.1
      have HV : Hid (valM md st at_ = ((at_ % md * st : Nat) : Int) * 1048576) := Lib.hid (by unfold valM; omega)
      have HRr : Hid (at_ % md = at_ % md) := Lib.hid rfl
      obtain ⟨pr, hpr⟩ : ∃ x, at_ % md * st = x := ⟨_, rfl⟩
      rw [hpr] at ep hp HV
      clear hpr
      obtain ⟨r, hrr⟩ : ∃ x, at_ % md = x := ⟨_, rfl⟩
      have RR := Lib.hid hrr
      rw [hrr] at er ep hr
      clear hrr HRr
      go_wp2_with fail
      refine (cl).mono ?_
      rintro e w' ⟨rfl, rfl⟩
      clear cl
      go_wp2_with fail
      have QP : Hid (Row (W4.alloc (.cells #[.int .i64 ((pr : Int) * 1048576)] 2)) (some ⟨W4.heap.size, 0, none⟩) [(pr : Int) * 1048576]) := Lib.hid (row1_new W4 _ 2)
      have hb : Below W4.heap.size W4 (W4.alloc (.cells #[.int .i64 ((pr : Int) * 1048576)] 2)) := (Below.refl _ _).alloc (Nat.le_refl _) _
      replace X := Lib.hid (X.out.below hb)
      have BW5 := Lib.hid (BW4.out.trans (hb.mono (show B ≤ W4.heap.size by have := BW4.out.size; rw [HB.out] at this; exact this)))
      clear hb BW4
      generalize World.alloc _ _ = W5 at *
      generalize W4.heap.size = n4 at *
      have cp := ix_probe X.out _ 1 [(pr : Int) * 1048576] QP.out (by simp)
      rw [← HV.out] at cp
      have AT : Hid (∀ j, j < i → j % md = at_ % md → (rowsTo (kysM md st i) [valM md st at_] j).length < (ints (rowsOf (kysM md st i) [valM md st at_])).length ∧ (ints (rowsOf (kysM md st i) [valM md st at_]))[(rowsTo (kysM md st i) [valM md st at_] j).length]?.getD 0 = (j : Int)) := Lib.hid (fun j h1 h2 => atM hst.2 h1 h2)
      have GL : Hid ((ints (rowsOf (kysM md st i) [valM md st at_])).length = (rowsTo (kysM md st i) [valM md st at_] i).length) := Lib.hid (by rw [ints_len, rowsOf, kysM_len])
      have hGl : (ints (rowsOf (kysM md st i) [valM md st at_])).length ≤ 512 := by rw [GL.out]; have := rowsTo_len (kysM md st i) [valM md st at_] i; omega
      refine (cp).mono ?_
      rintro e W6 ⟨ga, gc, rfl, hg, hb⟩
      clear QP
      replace X := Lib.hid (X.out.below hb)
      have BW6 := Lib.hid (BW5.out.trans (hb.mono (show B ≤ W5.heap.size by have := BW5.out.size; rw [HB.out] at this; exact this)))
      have G := Lib.hid hg
      clear hb BW5 hg
      generalize ints (rowsOf (kysM md st i) [valM md st at_]) = Gs at *
      clear cp
      go_wp2_with fail
      go_loop [15, 14] (fun s t => ∃ j k : Nat, s = .int .i64 j ∧ t = .int .i64 k ∧ j ≤ 1000 ∧ k ≤ 512 ∧ Hid (j % md = at_ % md) ∧ Hid (k = (rowsTo (kysM md st i) [valM md st at_] (min j i)).length)) (fun s _ => i - (intOf s).toNat)
      case atStart => exact ⟨r, 0, rfl, rfl, by omega, by omega, Lib.hid (by rw [← RR.out, Nat.mod_mod]), Lib.hid (by rw [← RR.out, startM hst.2 hmd.2])⟩
      case round =>
        obtain ⟨j, k, rfl, rfl, hj, hk, HJ, HK⟩ := hrel
        by_cases hji : j < i
        · have A1 := AT.out j hji HJ.out
          have KE : k = (rowsTo (kysM md st i) [valM md st at_] j).length := by rw [HK.out, Nat.min_eq_left (by omega)]
          rw [← KE] at A1
          have K2 : Hid (k + 1 = (rowsTo (kysM md st i) [valM md st at_] (min (j + md) i)).length) := Lib.hid (by rw [stepM hst.2 hmd.2 hji HJ.out, ← HK.out])
          have J2 : Hid ((j + md) % md = at_ % md) := Lib.hid (by rw [Nat.add_mod_right]; exact HJ.out)
          have hk2 : k < 512 := by have := A1.1; omega
          obtain ⟨gb, go, rfl, _, hc⟩ := G.out.at A1.1
          rw [A1.2] at hc
          have t1 : decide ((Gs.length : Int) ≤ (k : Int)) = false := decide_eq_false (by have := A1.1; omega)
          have t2 : decide (Gs.length ≤ k) = false := decide_eq_false (by have := A1.1; omega)
          have q1 : (k : Int) < (Gs.length : Int) := by have := A1.1; omega
          clear A1 KE
          go_wp2_with fail
          go_round
          case rel => exact ⟨j + md, k + 1, by go_num, by go_num, by omega, by omega, J2, K2⟩
          case measure => simp [intOf]; omega
        · have tj : decide (j < i) = false := decide_eq_false hji
          have KE : k = Gs.length := by rw [HK.out, GL.out, Nat.min_eq_right (by omega)]
          have e5 : ((k : Int) == (Gs.length : Int)) = true := by rw [KE]; simp
          clear KE
          go_wp2_with fail
          have QL : Hid (Row (W6.alloc (.cells #[.int .i64 (-1)] 2)) (some ⟨W6.heap.size, 0, none⟩) [-1]) := Lib.hid (row1_new W6 (-1) 2)
          have hb : Below W6.heap.size W6 (W6.alloc (.cells #[.int .i64 (-1)] 2)) := (Below.refl _ _).alloc (Nat.le_refl _) _
          replace X := Lib.hid (X.out.below hb)
          replace G := Lib.hid (G.out.below hb)
          have BW7 := Lib.hid (BW6.out.trans (hb.mono (show B ≤ W6.heap.size by have := BW6.out.size; rw [HB.out] at this; exact this)))
          clear hb BW6
          generalize World.alloc _ _ = W7 at *
          generalize W6.heap.size = n6 at *
          have cp := ix_probe X.out _ 1 [-1] QL.out (by simp)
          rw [noneM] at cp
          refine (cp).mono ?_
          rintro e W8 ⟨gb, gd, rfl, hr9, hb⟩
          clear QL
          replace X := Lib.hid (X.out.below hb)
          replace G := Lib.hid (G.out.below hb)
          have BW8 := Lib.hid (BW7.out.trans (hb.mono (show B ≤ W7.heap.size by have := BW7.out.size; rw [HB.out] at this; exact this)))
          clear hb BW7 
          clear cp hr9
          go_wp2_with fail
          go_ret
          exact ⟨rfl, by rw [HB.out]; exact BW8.out⟩
set_option maxRecDepth 100000 in
set_option maxHeartbeats 4000000 in
theorem many_B (x0 x1 x2 x3 : Int) (n m1 s1 at_ : Nat) (hn : n < 512) (hm1 : m1 < 256) (hs1 : s1 < 65536) (hat : at_ < 512) (e0 : bits .and .i64 x0 511 = (n : Int)) (e1 : bits .and .i64 x1 255 = (m1 : Int)) (e2 : bits .and .i64 x2 65535 = (s1 : Int)) (e3 : bits .and .i64 x3 511 = (at_ : Int)) (md st : Nat) (em : (1 : Int) + (m1 : Int) = (md : Int)) (es : (1 : Int) + (s1 : Int) = (st : Int)) (hmin : ¬ (n : Int) ≤ (md : Int)) (w : World) :
    Calls Try.prog 4 #[.int .i64 x0, .int .i64 x1, .int .i64 x2, .int .i64 x3] w (TrueRet5 w) := by
  have hmd : md ≤ 256 ∧ 1 ≤ md := by omega
  have hst : st ≤ 65536 ∧ 1 ≤ st := by omega
  obtain ⟨B, hB⟩ : ∃ B, w.heap.size = B := ⟨_, rfl⟩
  have HB := Lib.hid hB
  obtain ⟨i0, hi0, hz0, hz1, hz2⟩ := info_parts info24
  have I := Lib.hid hi0
  have Z0 := Lib.hid hz0
  have Z1 := Lib.hid hz1
  have Z2 := Lib.hid hz2
  clear hi0 hz0 hz1 hz2 hB
  go_enter Try.func4, Try.ntmps4
  go_wp2_with fail
  refine (head7_calls _).mono ?_
  rintro e W0 ⟨rfl, hbh⟩
  rw [HB.out] at hbh
  have BW0 := Lib.hid hbh
  clear hbh
  go_wp2_with fail
  obtain ⟨C, hC⟩ : ∃ C, W0.heap.size = C := ⟨_, rfl⟩
  have HC := Lib.hid hC
  have hBC : Hid (B ≤ C) := Lib.hid (by have := BW0.out.size; rw [HB.out, hC] at this; exact this)
  have T0 : Hid (UL C (W0.alloc (.cells #[] 24)) (.slice (some ⟨W0.heap.size, 0, none⟩) 0 0) []) := Lib.hid (UL.nil C W0 (Nat.le_of_eq hC.symm))
  have B0 : Hid (Below C W0 (W0.alloc (.cells #[] 24))) := Lib.hid ((Below.refl _ _).alloc (Nat.le_of_eq hC.symm) _)
  rw [hC] at T0 ⊢
  clear hC
  generalize World.alloc W0 _ = w5 at *
  generalize Value.slice (some ⟨C, 0, none⟩) 0 0 = v0 at *
  go_loopw [10, 9] (fun s v wr => ∃ (i : Nat) (L : List RV) (u : Value), i ≤ n ∧ s = .int .i64 i ∧ u = v ∧ Hid (L.length = i) ∧ Hid (UL C wr u L) ∧ Hid (L.map (·.2.1) = rowsM md st i) ∧ Hid (Below C W0 wr)) (fun s _ _ => n - (intOf s).toNat)
  case atStart => exact ⟨0, [], v0, Nat.zero_le _, rfl, rfl, Lib.hid rfl, T0, Lib.hid rfl, B0⟩
  case round =>
    obtain ⟨i, L, u, hi, rfl, rfl, HLi, U, HR, HL⟩ := hrel
    have hCr : C ≤ wr.heap.size := by have := HL.out.size; rw [HC.out] at this; exact this
    by_cases hlt : i < n
    · have er := tmodN i md
      have hr : i % md < md := Nat.mod_lt _ (by omega)
      have ep : ((i % md : Nat) : Int) * (st : Int) = ((i % md * st : Nat) : Int) := by simp
      have hp : i % md * st ≤ 255 * 65536 := Nat.mul_le_mul (by omega) hst.1
      have HV : Hid (valM md st i = ((i % md * st : Nat) : Int) * 1048576) := Lib.hid (by unfold valM; omega)
      have HRM : Hid (rowM md st i = [(i : Int), ((i % md * st : Nat) : Int) * 1048576]) := Lib.hid (by unfold rowM; rw [HV.out])
      generalize i % md * st = pr at *
      generalize i % md = r at *
      have hLi : L.length ≤ 512 := by have := HLi.out; omega
      have RW : Hid (Row (wr.alloc (.cells #[.int .i64 i, .int .i64 ((pr : Int) * 1048576)] 2)) (some ⟨wr.heap.size, 0, none⟩) [(i : Int), (pr : Int) * 1048576]) := Lib.hid (row2 (by go_simp) (by go_simp) (by simp))
      have U2 := Lib.hid (U.out.below ((Below.refl wr.heap.size wr).alloc (Nat.le_refl _) (.cells #[.int .i64 i, .int .i64 ((pr : Int) * 1048576)] 2)))
      have L2 := Lib.hid (HL.out.alloc hCr (.cells #[.int .i64 i, .int .i64 ((pr : Int) * 1048576)] 2))
      have FR : Hid (∀ p : Addr, some (⟨wr.heap.size, 0, none⟩ : Addr) = some p → p.block < (wr.alloc (.cells #[.int .i64 i, .int .i64 ((pr : Int) * 1048576)] 2)).heap.size ∧ u.ownBlock ≠ some p.block) := Lib.hid (fun p hp => by
        cases hp
        refine ⟨by simp, fun e => ?_⟩
        have := (U.out.own.lt _ e).2
        simp at this)
      go_wp2_with (first | (at_builtin; refine wpList_append_own_at _ rfl _ _ 22 rfl C 24 i0 (.slice none 0 0) 1 24 Try.underlying22 I.out Z0.out Z1.out Z2.out rfl (by decide) _ _ _ rfl (U2.out.own.alloc _) ⟨wr.heap.size + 1, 0, none⟩ 1 1 [.slice (some ⟨wr.heap.size, 0, none⟩) 2 2] rfl rfl ?c1 ?c2 ?c3 ?c4 ?c5 ?_))
      case c1 => have := cell_one_new (wr.alloc (.cells #[.int .i64 i, .int .i64 ((pr : Int) * 1048576)] 2)) (.slice (some ⟨wr.heap.size, 0, none⟩) 2 2) 24; simpa using this
      case c2 => intro u hu; simp at hu; subst hu; rfl
      case c3 => unfold maxLen; omega
      case c4 => omega
      case c5 => simp; omega
      intro v1 w7 hown hgrow _ hat7
      have U7 := Lib.hid (U2.out.push (x := (some ⟨wr.heap.size, 0, none⟩, [(i : Int), (pr : Int) * 1048576], 2)) RW.out (by simp) FR.out hown hgrow (by simpa using hat7))
      have B7 := Lib.hid (U2.out.belowW L2.out (by simp; omega) hgrow)
      clear hown hgrow hat7
      go_wp2_with fail
      go_roundw
      case rel => exact ⟨i + 1, _, _, by omega, by go_num, rfl, Lib.hid (by rw [List.length_append, HLi.out]; rfl), U7, Lib.hid (by rw [List.map_append, HR.out, rowsM_succ, HRM.out]; rfl), B7⟩
      case measure => simp [intOf]; omega
    · obtain rfl : i = n := by omega
      have tl : decide (i < i) = false := decide_eq_false hlt
      obtain ⟨W1, rfl⟩ : ∃ x, x = wr := ⟨wr, rfl⟩
      have BW1 := Lib.hid (BW0.out.trans (HL.out.mono hBC.out))
      obtain ⟨ua, uc, rfl, hRR⟩ := U.out.rrow
      have hL5 : L.length ≤ 1000 := by have := HLi.out; omega
      have cm := make_calls 2 ua uc L W1 hRR (by omega) hL5 (fun x hx => by
        have h1 : x.2.1 ∈ L.map (·.2.1) := List.mem_map_of_mem hx
        rw [HR.out] at h1
        obtain ⟨j, _, hj⟩ := List.mem_map.1 h1
        rw [← hj]; simp [rowM])
      rw [HR.out, rowsM_rel] at cm
      clear hRR hBC HL B0 T0 hL5
      go_wp2_with fail
      refine (cm).mono ?_
      rintro e W2 ⟨p, rfl, hs, hb⟩
      have BW2 := Lib.hid (BW1.out.trans (hb.mono (show B ≤ W1.heap.size by have := BW1.out.size; rw [HB.out] at this; exact this)))
      have S := Lib.hid hs
      clear hb BW1 hs
      clear cm
      go_wp2_with fail
      have QN : Hid (Row (W2.alloc (.cells #[.int .i64 1] 3)) (some ⟨W2.heap.size, 0, none⟩) [1]) := Lib.hid (row1_new W2 1 3)
      have hb : Below W2.heap.size W2 (W2.alloc (.cells #[.int .i64 1] 3)) := (Below.refl _ _).alloc (Nat.le_refl _) _
      replace S := Lib.hid (S.out.below hb)
      have BW3 := Lib.hid (BW2.out.trans (hb.mono (show B ≤ W2.heap.size by have := BW2.out.size; rw [HB.out] at this; exact this)))
      clear hb BW2
      generalize World.alloc _ _ = W3 at *
      generalize W2.heap.size = n2 at *
      have cb := build_calls S.out _ 1 [1] QN.out (by simp) (by omega) (by simp [rowsM]; omega)
      rw [rowsM_keys] at cb
      refine (cb).mono ?_
      rintro e W4 ⟨g, rfl, hx, hb⟩
      clear QN
      clear S
      have BW4 := Lib.hid (BW3.out.trans (hb.mono (show B ≤ W3.heap.size by have := BW3.out.size; rw [HB.out] at this; exact this)))
      have X := Lib.hid hx
      clear hb BW3 hx
      clear cb
      have cl := ix_len X.out
      have DD : dst (kysM md st i) = md := by rw [dstM hst.2 hmd.2]; omega
      rw [DD] at cl
      clear DD
      have er := tmodN at_ md
      have hr : at_ % md < md := Nat.mod_lt _ (by omega)
      have ep : ((at_ % md : Nat) : Int) * (st : Int) = ((at_ % md * st : Nat) : Int) := by simp
      have hp : at_ % md * st ≤ 255 * 65536 := Nat.mul_le_mul (by omega) hst.1
      have HV : Hid (valM md st at_ = ((at_ % md * st : Nat) : Int) * 1048576) := Lib.hid (by unfold valM; omega)
      have HRr : Hid (at_ % md = at_ % md) := Lib.hid rfl
      obtain ⟨pr, hpr⟩ : ∃ x, at_ % md * st = x := ⟨_, rfl⟩
      rw [hpr] at ep hp HV
      clear hpr
      obtain ⟨r, hrr⟩ : ∃ x, at_ % md = x := ⟨_, rfl⟩
      have RR := Lib.hid hrr
      rw [hrr] at er ep hr
      clear hrr HRr
      go_wp2_with fail
      refine (cl).mono ?_
      rintro e w' ⟨rfl, rfl⟩
      clear cl
      go_wp2_with fail
      have QP : Hid (Row (W4.alloc (.cells #[.int .i64 ((pr : Int) * 1048576)] 2)) (some ⟨W4.heap.size, 0, none⟩) [(pr : Int) * 1048576]) := Lib.hid (row1_new W4 _ 2)
      have hb : Below W4.heap.size W4 (W4.alloc (.cells #[.int .i64 ((pr : Int) * 1048576)] 2)) := (Below.refl _ _).alloc (Nat.le_refl _) _
      replace X := Lib.hid (X.out.below hb)
      have BW5 := Lib.hid (BW4.out.trans (hb.mono (show B ≤ W4.heap.size by have := BW4.out.size; rw [HB.out] at this; exact this)))
      clear hb BW4
      generalize World.alloc _ _ = W5 at *
      generalize W4.heap.size = n4 at *
      have cp := ix_probe X.out _ 1 [(pr : Int) * 1048576] QP.out (by simp)
      rw [← HV.out] at cp
      have AT : Hid (∀ j, j < i → j % md = at_ % md → (rowsTo (kysM md st i) [valM md st at_] j).length < (ints (rowsOf (kysM md st i) [valM md st at_])).length ∧ (ints (rowsOf (kysM md st i) [valM md st at_]))[(rowsTo (kysM md st i) [valM md st at_] j).length]?.getD 0 = (j : Int)) := Lib.hid (fun j h1 h2 => atM hst.2 h1 h2)
      have GL : Hid ((ints (rowsOf (kysM md st i) [valM md st at_])).length = (rowsTo (kysM md st i) [valM md st at_] i).length) := Lib.hid (by rw [ints_len, rowsOf, kysM_len])
      have hGl : (ints (rowsOf (kysM md st i) [valM md st at_])).length ≤ 512 := by rw [GL.out]; have := rowsTo_len (kysM md st i) [valM md st at_] i; omega
      refine (cp).mono ?_
      rintro e W6 ⟨ga, gc, rfl, hg, hb⟩
      clear QP
      replace X := Lib.hid (X.out.below hb)
      have BW6 := Lib.hid (BW5.out.trans (hb.mono (show B ≤ W5.heap.size by have := BW5.out.size; rw [HB.out] at this; exact this)))
      have G := Lib.hid hg
      clear hb BW5 hg
      generalize ints (rowsOf (kysM md st i) [valM md st at_]) = Gs at *
      clear cp
      go_wp2_with fail
      go_loop [15, 14] (fun s t => ∃ j k : Nat, s = .int .i64 j ∧ t = .int .i64 k ∧ j ≤ 1000 ∧ k ≤ 512 ∧ Hid (j % md = at_ % md) ∧ Hid (k = (rowsTo (kysM md st i) [valM md st at_] (min j i)).length)) (fun s _ => i - (intOf s).toNat)
      case atStart => exact ⟨r, 0, rfl, rfl, by omega, by omega, Lib.hid (by rw [← RR.out, Nat.mod_mod]), Lib.hid (by rw [← RR.out, startM hst.2 hmd.2])⟩
      case round =>
        obtain ⟨j, k, rfl, rfl, hj, hk, HJ, HK⟩ := hrel
        by_cases hji : j < i
        · have A1 := AT.out j hji HJ.out
          have KE : k = (rowsTo (kysM md st i) [valM md st at_] j).length := by rw [HK.out, Nat.min_eq_left (by omega)]
          rw [← KE] at A1
          have K2 : Hid (k + 1 = (rowsTo (kysM md st i) [valM md st at_] (min (j + md) i)).length) := Lib.hid (by rw [stepM hst.2 hmd.2 hji HJ.out, ← HK.out])
          have J2 : Hid ((j + md) % md = at_ % md) := Lib.hid (by rw [Nat.add_mod_right]; exact HJ.out)
          have hk2 : k < 512 := by have := A1.1; omega
          obtain ⟨gb, go, rfl, _, hc⟩ := G.out.at A1.1
          rw [A1.2] at hc
          have t1 : decide ((Gs.length : Int) ≤ (k : Int)) = false := decide_eq_false (by have := A1.1; omega)
          have t2 : decide (Gs.length ≤ k) = false := decide_eq_false (by have := A1.1; omega)
          have q1 : (k : Int) < (Gs.length : Int) := by have := A1.1; omega
          clear A1 KE
          go_wp2_with fail
          go_round
          case rel => exact ⟨j + md, k + 1, by go_num, by go_num, by omega, by omega, J2, K2⟩
          case measure => simp [intOf]; omega
        · have tj : decide (j < i) = false := decide_eq_false hji
          have KE : k = Gs.length := by rw [HK.out, GL.out, Nat.min_eq_right (by omega)]
          have e5 : ((k : Int) == (Gs.length : Int)) = true := by rw [KE]; simp
          clear KE
          go_wp2_with fail
          have QL : Hid (Row (W6.alloc (.cells #[.int .i64 (-1)] 2)) (some ⟨W6.heap.size, 0, none⟩) [-1]) := Lib.hid (row1_new W6 (-1) 2)
          have hb : Below W6.heap.size W6 (W6.alloc (.cells #[.int .i64 (-1)] 2)) := (Below.refl _ _).alloc (Nat.le_refl _) _
          replace X := Lib.hid (X.out.below hb)
          replace G := Lib.hid (G.out.below hb)
          have BW7 := Lib.hid (BW6.out.trans (hb.mono (show B ≤ W6.heap.size by have := BW6.out.size; rw [HB.out] at this; exact this)))
          clear hb BW6
          generalize World.alloc _ _ = W7 at *
          generalize W6.heap.size = n6 at *
          have cp := ix_probe X.out _ 1 [-1] QL.out (by simp)
          rw [noneM] at cp
          refine (cp).mono ?_
          rintro e W8 ⟨gb, gd, rfl, hr9, hb⟩
          clear QL
          replace X := Lib.hid (X.out.below hb)
          replace G := Lib.hid (G.out.below hb)
          have BW8 := Lib.hid (BW7.out.trans (hb.mono (show B ≤ W7.heap.size by have := BW7.out.size; rw [HB.out] at this; exact this)))
          clear hb BW7 
          clear cp hr9
          go_wp2_with fail
          go_ret
          exact ⟨rfl, by rw [HB.out]; exact BW8.out⟩
theorem many_walk (x0 x1 x2 x3 : Int) (w : World) : Calls Try.prog 4 #[.int .i64 x0, .int .i64 x1, .int .i64 x2, .int .i64 x3] w (TrueRet5 w) := by
  obtain ⟨n, hn, e0⟩ := maskE x0 9 (by omega) 511 (by decide)
  obtain ⟨m1, hm1, e1⟩ := maskE x1 8 (by omega) 255 (by decide)
  obtain ⟨s1, hs1, e2⟩ := maskE x2 16 (by omega) 65535 (by decide)
  obtain ⟨a, ha, e3⟩ := maskE x3 9 (by omega) 511 (by decide)
  by_cases h : (n : Int) ≤ ((m1 + 1 : Nat) : Int)
  · exact many_A x0 x1 x2 x3 n m1 s1 a hn hm1 hs1 ha e0 e1 e2 e3 (m1 + 1) (s1 + 1) (by omega) (by omega) h w
  · exact many_B x0 x1 x2 x3 n m1 s1 a hn hm1 hs1 ha e0 e1 e2 e3 (m1 + 1) (s1 + 1) (by omega) (by omega) h w
end Go.Proofs.Ytenlhojdpjedkaa
