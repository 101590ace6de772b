/- GraphLong, walked. -/
import Derived.Test.YtfpocoaddmgakaaLgM
import Derived.Test.YtfpocoaddmgakaaHd
import Derived.Deep.Cut
import Derived.Deep.DeepCutAuto
namespace Go.Proofs.Ytfpocoaddmgakaa
open Go.RowKit
set_option linter.unusedVariables false
set_option linter.unusedSimpArgs false
theorem ofInt_toNat (x : Int) : (BitVec.ofInt 64 x).toNat = (x % 18446744073709551616).toNat := by simp [BitVec.toNat_ofInt]
theorem maskB (x : Int) (k : Nat) (hk : k ≤ 20) (y : Int) (hy : y = 2 ^ k - 1) : ∃ m : Nat, m < 2 ^ k ∧ bits .and .i64 x y = (m : Int) := by
  have hp : (2 : Nat) ^ k ≤ 2 ^ 20 := Nat.pow_le_pow_right (by omega) hk
  have hp1 : 1 ≤ (2 : Nat) ^ k := Nat.one_le_two_pow
  have hc : ((2 : Int) ^ k) = ((2 ^ k : Nat) : Int) := by simp
  have e : (BitVec.ofInt 64 y).toNat = 2 ^ k - 1 := by
    rw [ofInt_toNat, hy, hc]; omega
  refine ⟨(x % 18446744073709551616).toNat % 2 ^ k, Nat.mod_lt _ (by omega), ?_⟩
  show IntKind.i64.wrap ((BitVec.ofInt 64 x &&& BitVec.ofInt 64 y).toNat : Int) = _
  rw [BitVec.toNat_and, ofInt_toNat, e, Nat.and_two_pow_sub_one_eq_mod, IntKind.wrap_i64]
  have : (x % 18446744073709551616).toNat % 2 ^ k < 2 ^ k := Nat.mod_lt _ (by omega)
  omega
/-- A list of rows is a graph's edges. -/
theorem edges_pl {K : List Value} {C : Nat → List Int} (h : ∀ i, K.length ≤ i → C i = []) : edgesOf (PL.rv K C) = C := by
  funext i
  unfold edgesOf
  rcases Nat.lt_or_ge i K.length with hi | hi
  · exact PL.rvAt hi
  · rw [h i hi]
    unfold atV
    rw [List.getElem?_eq_none (by rw [PL.rvLen]; exact hi)]
    rfl
/-- A row of the list is set to a new one of one number. -/
theorem PL.setOne {B : Nat} {w : World} {g m c k : Nat} {K : List Value} {C : Nat → List Int} (x : Int) (h : PL B w (.slice (some ⟨g, 0, none⟩) m c) K C) (hk : k < K.length) (h0 : C k = []) (hB : B ≤ w.heap.size) :
    PL B ((w.alloc (.cells #[.int .i64 x] 3)).setCell ⟨g, k, none⟩ (sl w.heap.size 1)) (.slice (some ⟨g, 0, none⟩) m c) (K.set k (sl w.heap.size 1)) (fun i => if i = k then [x] else C i) ∧ Below B w ((w.alloc (.cells #[.int .i64 x] 3)).setCell ⟨g, k, none⟩ (sl w.heap.size 1)) ∧ (w.alloc (.cells #[.int .i64 x] 3)).cell? ⟨g, k, none⟩ = some (atK K k) ∧ (w.alloc (.cells #[.int .i64 x] 3)).frozen? ⟨g, k, none⟩ = false := by
  have hown : (w.alloc (.cells #[.int .i64 x] 3)).ownsRow B 3 1 (sl w.heap.size 1) ((C k).length + 1) (ints (C k) ++ [.int .i64 x]) := by
    rw [h0]
    exact World.ownsRow_lit (base := B) (e := 3) (size := 1) w #[.int .i64 x] 1 hB (by decide) rfl
  obtain ⟨G1, G2, _⟩ := h.grow (w1 := w.alloc (.cells #[.int .i64 x] 3)) (v' := sl w.heap.size 1) (x := x) hk hB hown ((Keeps.refl _ w).alloc _) (fun b hb => by simp [Value.ownBlock] at hb; right; omega)
  rw [h0] at G1
  obtain ⟨g', c', e, _, hc, hf⟩ := h.cellAt hk
  obtain ⟨rfl, _, rfl⟩ : g = g' ∧ m = K.length ∧ c = c' := by simpa using e
  have hgl := (h.out.lt g rfl).2
  refine ⟨G1, G2.below hB (fun b e => ?_), ?_, ?_⟩
  · rcases e with rfl | e
    · exact (h.out.lt _ rfl).1
    · exact ((h.own k hk).lt b e).1
  · rw [World.cell?_of_block (a := ⟨g, k, none⟩) (heap_alloc_old w _ hgl)]; exact hc
  · rw [World.frozen?_of_block (a := ⟨g, k, none⟩) (heap_alloc_old w _ hgl)]; exact hf
/-- The edges so far. -/
def upE (i : Nat) : Nat → List Int := fun j => if j < i then [((j + 1 : Nat) : Int)] else []
theorem upE_step (i : Nat) : (fun j => if j = i then [((i + 1 : Nat) : Int)] else upE i j) = upE (i + 1) := by
  funext j
  unfold upE
  by_cases e : j = i
  · subst e; rw [if_pos rfl, if_pos (by omega)]
  · rw [if_neg e]
    by_cases h : j < i
    · rw [if_pos h, if_pos (by omega)]
    · rw [if_neg h, if_neg (by omega)]
theorem upE_path {n : Nat} : upE (n - 1) = pathE n := by
  funext j
  unfold upE pathE
  by_cases h : j + 1 < n
  · rw [if_pos (by omega), if_pos h]
  · rw [if_neg (by omega), if_neg h]
theorem upE_ring {n : Nat} (hn : 0 < n) : (fun j => if j = n - 1 then [(0 : Int)] else upE (n - 1) j) = ringE n := by
  funext j
  unfold upE ringE
  by_cases e : j = n - 1
  · rw [if_pos e, if_neg (by omega), if_pos (by omega)]
  · rw [if_neg e]
    by_cases h : j + 1 < n
    · rw [if_pos (by omega), if_pos h]
    · rw [if_neg (by omega), if_neg h, if_neg (by omega)]
set_option maxRecDepth 100000 in
set_option maxHeartbeats 4000000 in
theorem long_calls (x : Int) (hx : (Lit.int .i64 x).wf = true) (ring : Bool) (w : World) : Calls Try.prog 5 #[.int .i64 x, .bool ring] w fun e w' => e = .returned (.bool true) ∧ Below w.heap.size w w' := by
  obtain ⟨i2, hj, hy0, hy1, hy2⟩ := info_parts info22
  have J := Lib.hid hj
  have Y0 := Lib.hid hy0
  have Y1 := Lib.hid hy1
  have Y2 := Lib.hid hy2
  clear hj hy0 hy1 hy2
  have c1 := head_calls w
  obtain ⟨m, hm, hmask⟩ := maskB x 12 (by omega) 4095 (by decide)
  obtain ⟨n, hmn⟩ : ∃ n, n = m + 1 := ⟨_, rfl⟩
  have hn0 : 0 < n := by omega
  have hn1 : n ≤ 4096 := by omega
  have w1e : wrap64 (1 + bits .and .i64 x 4095) = (n : Int) := by rw [hmask]; unfold wrap64; omega
  clear hm hmask hmn
  go_enter Try.func5, Try.ntmps5
  go_upto_region 4 with (first | (go_at_call 7; refine c1.mono ?_; rintro e w1 ⟨rfl, hb1⟩; have HB1 := Lib.hid hb1; clear hb1))
  simp only [w1e]
  go_wp2_with (first | (refine wpList_make_row _ rfl _ _ 24 rfl 22 i2 (.slice none 0 0) Try.underlying24 J.out Y0.out Y1.out rfl .i64 .i64 n rfl rfl ?b3 ?b4 ?_))
  case b3 => rw [Y2.out]; omega
  case b4 => omega
  obtain ⟨B, hB⟩ : ∃ B, w1.heap.size = B := ⟨_, rfl⟩
  have P0 : Hid (PL B (w1.alloc (.cells (madeCells #[.slice none 0 0] n) 22)) (sl B n) (List.replicate n (.slice none 0 0)) (upE 0) ∧ Below w.heap.size w (w1.alloc (.cells (madeCells #[.slice none 0 0] n) 22)) ∧ B ≤ (w1.alloc (.cells (madeCells #[.slice none 0 0] n) 22)).heap.size) := Lib.hid ⟨(PL.made (Nat.le_refl _) (by unfold maxLen; omega) (by rw [← hB, heap_alloc_new])).congr (fun k _ => by simp [upE]), HB1.out.alloc HB1.out.size _, by simp; omega⟩
  have HWB : Hid (w.heap.size ≤ B) := Lib.hid (by rw [← hB]; exact HB1.out.size)
  rw [hB]
  clear hB HB1 w1e c1
  generalize World.alloc w1 _ = w2 at *
  go_loopw [6] (fun s6 wr => ∃ (i : Nat) (K : List Value), i < n ∧ s6 = .int .i64 i ∧ Hid (K.length = n) ∧ Hid (PL B wr (sl B n) K (upE i) ∧ Below w.heap.size w wr ∧ B ≤ wr.heap.size)) (fun s6 _ => n - (intOf s6).toNat)
  case atStart => exact ⟨0, _, hn0, rfl, Lib.hid (by simp), P0⟩
  case round =>
    obtain ⟨i, K, hi, rfl, HK, HP⟩ := hrel
    clear P0
    by_cases hlt : i + 1 < n
    · have i0 : (0 : Int) ≤ (i : Int) := by omega
      have i1 : (i : Int) < (n : Int) := by omega
      have q1 : decide ((i : Int) + 1 < (n : Int)) = true := decide_eq_true (by omega)
      have S := HP.out.1.setOne ((i + 1 : Nat) : Int) (by rw [HK.out]; exact hi) (by unfold upE; rw [if_neg (by omega)]) HP.out.2.2
      rw [upE_step, show (((i + 1 : Nat) : Int)) = (i : Int) + 1 from by omega] at S
      obtain ⟨S1, S2, S3, S4⟩ := S
      obtain ⟨ra, rc, hrow, _⟩ := HP.out.1.rowForm (k := i) (by rw [HK.out]; exact hi)
      rw [hrow] at S3
      have NX : Hid (PL B ((wr.alloc (.cells #[.int .i64 ((i : Int) + 1)] 3)).setCell ⟨B, i, none⟩ (sl wr.heap.size 1)) (sl B n) (K.set i (sl wr.heap.size 1)) (upE (i + 1)) ∧ Below w.heap.size w ((wr.alloc (.cells #[.int .i64 ((i : Int) + 1)] 3)).setCell ⟨B, i, none⟩ (sl wr.heap.size 1)) ∧ B ≤ ((wr.alloc (.cells #[.int .i64 ((i : Int) + 1)] 3)).setCell ⟨B, i, none⟩ (sl wr.heap.size 1)).heap.size) := Lib.hid ⟨S1, HP.out.2.1.trans (S2.mono HWB.out), by have := S2.size; have := HP.out.2.2; omega⟩
      have HK2 : Hid ((K.set i (sl wr.heap.size 1)).length = n) := Lib.hid (by rw [List.length_set]; exact HK.out)
      clear S1 S2 hrow
      go_wp2_with fail
      go_roundw
      case rel => exact ⟨i + 1, _, by omega, by go_num, HK2, NX⟩
      case measure => simp [intOf]; omega
    · obtain rfl : i = n - 1 := by omega
      have q1 : decide ((((n - 1 : Nat) : Int)) + 1 < (n : Int)) = false := decide_eq_false (by omega)
      obtain ⟨a9, c9, e9, hrr⟩ := HP.out.1.rrow
      rw [HK.out] at e9
      obtain ⟨rfl, rfl⟩ : some ⟨B, 0, none⟩ = a9 ∧ n = c9 := by simpa using e9
      clear e9
      cases ring
      · have hE := edges_pl (K := K) (C := upE (n - 1)) (fun i hi => by unfold upE; rw [if_neg (by rw [HK.out] at hi; omega)])
        rw [upE_path] at hE
        rw [upE_path] at hrr
        have cc := comps_calls (ec := n) hrr (fun i _ => by rw [hE]; have := path_one n i; omega) (by rw [PL.rvLen, HK.out, hE]; have := tot_small (n := n) (path_one n); omega) (by rw [PL.rvLen, HK.out]; omega)
        rw [PL.rvLen, HK.out, hE] at cc
        have HB2 := Lib.hid HP.out.2.1
        clear hE hrr HP
        go_upto_region 12 with (first | (go_at_call 10; refine cc.mono ?_; rintro e w4 ⟨a, cap, M, rfl, hM, hC, hbe⟩; have HM := Lib.hid hM; have HR := Lib.hid (hC.unique (comps_path n)); have HB4 := Lib.hid (HB2.out.trans (hbe.mono HB2.out.size)); clear hM hC hbe))
        have hl : M.length = n := by have := congrArg List.length HR.out; simpa using this
        have HL := Lib.hid hl
        rw [hl]
        clear hl cc
        have P1 : Hid (Below w.heap.size w w4) := HB4
        go_wp2_with fail
        go_loopw [71, 8, 9] (fun s71 _ _ wv => ∃ j : Nat, j ≤ n ∧ s71 = .int .i64 j ∧ w4 = wv) (fun s71 _ _ _ => n - (intOf s71).toNat)
        case atStart => exact ⟨0, Nat.zero_le _, rfl, rfl⟩
        case round =>
          obtain ⟨j, hj, rfl, rfl⟩ := hrel
          by_cases hlj : j < n
          · have j0 : (0 : Int) ≤ (j : Int) := by omega
            have j1 : (j : Int) < (n : Int) := by omega
            obtain ⟨g, off, rfl, hg, hc, hrow, _⟩ := HM.out.at (k := j) (by rw [HL.out]; exact hlj)
            have hrj : (atV M j).2.1 = [((n - 1 - j : Nat) : Int)] := by
              have h1 := rowsOf_at (M := M) (k := j) (by rw [HL.out]; exact hlj)
              have h2 : rowsOf M = _ := HR.out
              rw [h2, List.getElem?_map, List.getElem?_range hlj] at h1
              exact (Option.some.inj h1).symm
            rw [hrj] at hc hrow
            obtain ⟨g2, o2, hx1, hg2, hc2⟩ := hrow.at (k := 0) (by simp)
            rw [hx1] at hc
            simp only [List.length_cons, List.length_nil, Nat.zero_add, Nat.add_zero, List.getElem?_cons_zero, Option.getD_some] at hc hc2
            obtain ⟨z, hz⟩ : ∃ z : Nat, n - 1 - j = z := ⟨_, rfl⟩
            rw [hz] at hc2
            have q1 : ((z : Int) != (n : Int) - 1 - (j : Int)) = false := by
              have : (z : Int) = (n : Int) - 1 - (j : Int) := by omega
              rw [this]; simp
            generalize (atV M j).2.2 = cc at *
            clear hrj hx1 hrow hz
            go_wp2_with fail
            go_roundw
            case rel => exact ⟨j + 1, by omega, by go_num, trivial⟩
            case measure => simp [intOf]; omega
          · obtain rfl : j = n := by omega
            clear HM
            go_wp2_with fail
            go_ret
            exact ⟨rfl, HB4.out⟩
      · obtain ⟨p, rfl⟩ : ∃ p, n = p + 1 := ⟨n - 1, by omega⟩
        simp only [Nat.add_sub_cancel] at *
        have hK1 : p < K.length := by rw [HK.out]; omega
        have S := HP.out.1.setOne 0 hK1 (by unfold upE; rw [if_neg (by omega)]) HP.out.2.2
        have ur := upE_ring (n := p + 1) (by omega)
        simp only [Nat.add_sub_cancel] at ur
        rw [ur] at S
        obtain ⟨S1, S2, S3, S4⟩ := S
        obtain ⟨ra, rc, hrow, _⟩ := HP.out.1.rowForm hK1
        rw [hrow] at S3
        have HB2 := Lib.hid (HP.out.2.1.trans (S2.mono HWB.out))
        obtain ⟨a7, c7, e7, hr7⟩ := S1.rrow
        rw [List.length_set, HK.out] at e7
        obtain ⟨rfl, rfl⟩ : some ⟨B, 0, none⟩ = a7 ∧ p + 1 = c7 := by simpa using e7
        have hE := edges_pl (K := K.set p (sl wr.heap.size 1)) (C := ringE (p + 1)) (fun i hi => by rw [List.length_set, HK.out] at hi; unfold ringE; rw [if_neg (by omega), if_neg (by omega)])
        have hlK : (PL.rv (K.set p (sl wr.heap.size 1)) (ringE (p + 1))).length = p + 1 := by rw [PL.rvLen, List.length_set, HK.out]
        have cc := comps_calls (ec := p + 1) hr7 (fun i _ => by rw [hE]; have := ring_one (p + 1) i; omega) (by rw [hlK, hE]; have := tot_small (n := p + 1) (ring_one (p + 1)); omega) (by rw [hlK]; omega)
        rw [hlK, hE] at cc
        have p0 : (0 : Int) ≤ (p : Int) := by omega
        clear S1 S2 hrow e7 hr7 hE hlK hrr HP ur
        generalize hwz : (wr.alloc (.cells #[.int .i64 0] 3)).setCell ⟨B, p, none⟩ (sl wr.heap.size 1) = wz at *
        go_upto_region 12 with (first | (go_at_call 10; refine cc.mono ?_; rintro e w4 ⟨a, cap, M, rfl, hM, hC, hbe⟩; have HM := Lib.hid hM; have HR := Lib.hid (hC.unique (comps_ring (by omega))); have HB4 := Lib.hid (HB2.out.trans (hbe.mono HB2.out.size)); clear hM hC hbe))
        have hl : M.length = 1 := by have := congrArg List.length HR.out; simpa using this
        obtain ⟨g, off, rfl, hg, hc, hrow, _⟩ := HM.out.at (k := 0) (by rw [hl]; omega)
        have hrj : (atV M 0).2.1 = (List.range (p + 1)).map fun (i : Nat) => (i : Int) := by
          have h1 := rowsOf_at (M := M) (k := 0) (by rw [hl]; omega)
          have h2 : rowsOf M = _ := HR.out
          rw [h2] at h1
          exact (Option.some.inj h1).symm
        rw [hrj] at hc hrow
        have hlen : ((List.range (p + 1)).map fun (i : Nat) => (i : Int)).length = p + 1 := by simp
        obtain ⟨g2, o2, hx1, hg2, hc2⟩ := hrow.at (k := 0) (by rw [hlen]; omega)
        obtain ⟨g3, o3, hx3, hg3, hc3⟩ := hrow.at (k := p) (by rw [hlen]; omega)
        obtain ⟨rfl, rfl⟩ : g2 = g3 ∧ o2 = o3 := by rw [hx1] at hx3; simpa using hx3
        rw [hlen, hx1] at hc
        have z0 : ((List.range (p + 1)).map fun (i : Nat) => (i : Int))[0]?.getD 0 = 0 := by simp
        have zp : ((List.range (p + 1)).map fun (i : Nat) => (i : Int))[p]?.getD 0 = (p : Int) := by simp
        rw [z0] at hc2
        rw [zp] at hc3
        simp only [Nat.add_zero] at hc hc2
        rw [hl]
        generalize (atV M 0).2.2 = cc at *
        have q9 : (((p + 1 : Nat) : Int) == ((p + 1 : Nat) : Int)) = true := by simp
        clear hl hrj hrow hlen hx1 hx3 z0 zp HM HR
        go_wp2_with fail
        go_ret
        exact ⟨rfl, HB4.out⟩
end Go.Proofs.Ytfpocoaddmgakaa
