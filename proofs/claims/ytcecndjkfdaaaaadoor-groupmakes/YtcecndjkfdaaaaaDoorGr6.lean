/- GroupMakes, walked. -/
import Derived.Test.YtcecndjkfdaaaaaDoorGr5
namespace Go.Proofs.YtcecndjkfdaaaaaDoor
open Go.RowKit
set_option linter.unusedVariables false
set_option linter.unusedSimpArgs false

/-- The last number below i whose word is s. -/
def ofT (s : ByteArray) : Nat → Int
  | 0 => 0
  | i + 1 => if wordOf i = s ∧ 1 ≤ i then (i : Int) else ofT s i
theorem ofT_step {s : ByteArray} {i : Nat} (h : 1 ≤ i) : ofT s (i + 1) = if wordOf i = s then (i : Int) else ofT s i := by
  rw [ofT]
  by_cases e : wordOf i = s
  · rw [if_pos ⟨e, h⟩, if_pos e]
  · rw [if_neg (fun h => e h.1), if_neg e]
theorem ofT_all (s : ByteArray) : ofT s 5 = ofW s := by
  have d12 : ¬ wordOf 1 = wordOf 2 := by decide +kernel
  have d13 : ¬ wordOf 1 = wordOf 3 := by decide +kernel
  have d14 : ¬ wordOf 1 = wordOf 4 := by decide +kernel
  have d23 : ¬ wordOf 2 = wordOf 3 := by decide +kernel
  have d24 : ¬ wordOf 2 = wordOf 4 := by decide +kernel
  have d34 : ¬ wordOf 3 = wordOf 4 := by decide +kernel
  have e : ofT s 5 = if wordOf 4 = s then 4 else if wordOf 3 = s then 3 else if wordOf 2 = s then 2 else if wordOf 1 = s then 1 else 0 := by
    rw [ofT_step (by omega), ofT_step (by omega), ofT_step (by omega), ofT_step (by omega)]
    simp [ofT]
  have sw : ∀ x : ByteArray, (x = s) = (s = x) := fun x => propext ⟨Eq.symm, Eq.symm⟩
  rw [e]
  unfold ofW
  simp only [sw]
  clear e sw
  by_cases h1 : s = wordOf 1
  · subst h1; simp [d12, d13, d14]
  by_cases h2 : s = wordOf 2
  · subst h2; simp [h1, d23, d24]
  by_cases h3 : s = wordOf 3
  · subst h3; simp [h1, h2, d34]
  by_cases h4 : s = wordOf 4
  · subst h4; simp [h1, h2, h3]
  · simp [h1, h2, h3, h4]
theorem ofT_one (s : ByteArray) : ofT s 1 = 0 := by simp [ofT]
theorem ofW_word {i : Nat} (h1 : 1 ≤ i) (h2 : i ≤ 4) : ofW (wordOf i) = i := by
  have : i = 1 ∨ i = 2 ∨ i = 3 ∨ i = 4 := by omega
  rcases this with rfl | rfl | rfl | rfl <;> decide +kernel
theorem toList_self (x : ByteArray) : (x.toList == x.toList) = true := by simp
/-- The statement's own five words. -/
def WAt (w : World) (b : Nat) : Prop := ∀ i : Nat, i ≤ 4 → w.cell? ⟨b, i, none⟩ = some (.string (wordOf i))
theorem wat_new (w : World) : WAt (w.alloc (.cells #[.string ⟨#[]⟩, .string ⟨#[99, 111, 117, 110, 116]⟩, .string ⟨#[115, 117, 109]⟩, .string ⟨#[109, 105, 110]⟩, .string ⟨#[109, 97, 120]⟩] 9)) w.heap.size := by
  intro i hi
  have : i = 0 ∨ i = 1 ∨ i = 2 ∨ i = 3 ∨ i = 4 := by omega
  rcases this with rfl | rfl | rfl | rfl | rfl <;> (go_simp; rfl)
section
variable (k : Int) (a : Option Addr) (cap : Nat) (zs : List Int) (s : ByteArray)
set_option maxRecDepth 100000 in
set_option maxHeartbeats 2000000 in
theorem groupMakes_walk {w : World} (hw : Words w) (hR : Row w a zs) (hz : InR zs) (hm : zs.length ≤ maxLen) (hk : -9223372036854775808 ≤ k ∧ k ≤ 9223372036854775807) :
    Calls Tryd.prog 3 #[.int .i64 k, .slice a zs.length cap, .string s] w (TrueRet5 w) := by
  have ch := head9_calls w hw
  have HW := Lib.hid hw
  have HR := Lib.hid hR
  have HZ := Lib.hid hz
  unfold maxLen at hm
  obtain ⟨B, hB⟩ : ∃ B, w.heap.size = B := ⟨_, rfl⟩
  have HB := Lib.hid hB
  clear hw hR hz hB
  by_cases h2 : 200 < zs.length
  · have t1 : decide ((200 : Int) < (zs.length : Int)) = true := decide_eq_true (by omega)
    go_enter Tryd.func3, Tryd.ntmps3
    go_wp2_with fail
    refine ch.mono ?_
    rintro e w1 ⟨rfl, hb1⟩
    have B1 := Lib.hid hb1
    clear hb1 ch
    go_wp2_with fail
    go_ret
    exact ⟨rfl, B1.out⟩
  have t1 : decide ((200 : Int) < (zs.length : Int)) = false := decide_eq_false (by omega)
  by_cases h3 : (60 : Int) < (s.size : Int)
  · have t2 : decide ((60 : Int) < (s.size : Int)) = true := decide_eq_true h3
    go_enter Tryd.func3, Tryd.ntmps3
    go_wp2_with fail
    refine ch.mono ?_
    rintro e w1 ⟨rfl, hb1⟩
    have B1 := Lib.hid hb1
    clear hb1 ch
    go_wp2_with fail
    go_ret
    exact ⟨rfl, B1.out⟩
  have t2 : decide ((60 : Int) < (s.size : Int)) = false := decide_eq_false h3
  have kc : (∃ j : Nat, k = j ∧ j ≤ 4) ∨ k < 0 ∨ (0 ≤ k ∧ 4 < k) := by
    by_cases h0 : k < 0
    · exact .inr (.inl h0)
    · by_cases h4 : 4 < k
      · exact .inr (.inr ⟨by omega, h4⟩)
      · exact .inl ⟨k.toNat, by omega, by omega⟩
  rcases kc with ⟨j, rfl, hj⟩ | h0 | ⟨h0, h4⟩
  · have u0 : decide ((0 : Int) ≤ (j : Int)) = true := decide_eq_true (by omega)
    have u1 : decide ((j : Int) ≤ 4) = true := decide_eq_true (by omega)
    go_enter Tryd.func3, Tryd.ntmps3
    go_wp2_with fail
    refine ch.mono ?_
    rintro e w1 ⟨rfl, hb1⟩
    have B1 : Hid (Below B w w1) := Lib.hid (by rw [HB.out] at hb1; exact hb1)
    clear hb1 ch
    have BA : Below w1.heap.size w1 (w1.alloc (.cells #[.string ⟨#[]⟩, .string ⟨#[99, 111, 117, 110, 116]⟩, .string ⟨#[115, 117, 109]⟩, .string ⟨#[109, 105, 110]⟩, .string ⟨#[109, 97, 120]⟩] 9)) := (Below.refl _ _).alloc (Nat.le_refl _) _
    have B2 : Hid (Below B w (w1.alloc (.cells #[.string ⟨#[]⟩, .string ⟨#[99, 111, 117, 110, 116]⟩, .string ⟨#[115, 117, 109]⟩, .string ⟨#[109, 105, 110]⟩, .string ⟨#[109, 97, 120]⟩] 9))) := Lib.hid (B1.out.trans (BA.mono (by have := B1.out.size; rw [HB.out] at this; exact this)))
    have WT := Lib.hid (wat_new w1)
    have hcj := WT.out j hj
    clear BA B1
    go_wp2_with fail
    generalize World.alloc w1 _ = W2 at *
    generalize w1.heap.size = bw at *
    have HW2 := Lib.hid (HW.out.below (by rw [HB.out]; exact B2.out))
    have c7 := make_agg (j : Int) a cap zs W2 (HR.out.belowB HB.out B2.out) (by omega) HZ.out
    have c8 := made_is (j : Int) a cap zs W2 (HR.out.belowB HB.out B2.out) (by omega) HZ.out
    have cw := word_calls (j : Int) W2 HW2.out (by omega)
    have co := of_calls s W2 HW2.out
    generalize mkOf (j : Int) zs = mo at *
    generalize vOf mo = y at *
    generalize okOf mo = o at *
    refine c7.mono ?_
    rintro e w3 ⟨rfl, rfl⟩
    clear c7
    go_wp2_with fail
    refine c8.mono ?_
    rintro e w3 ⟨rfl, rfl⟩
    clear c8
    go_wp2_with fail
    go_loop [14, 13] (fun i v => ∃ j : Nat, 1 ≤ j ∧ j ≤ 5 ∧ i = .int .i64 j ∧ v = .int .i64 (ofT s j)) (fun i _ => 5 - (intOf i).toNat)
    case atStart => exact ⟨1, by omega, by omega, rfl, by rw [ofT_one]⟩
    case round =>
      obtain ⟨i, hi1, hi5, rfl, rfl⟩ := hrel
      by_cases hlt : i ≤ 4
      · have hc := WT.out i hlt
        have ST := Lib.hid (ofT_step (s := s) hi1)
        have cf := of_calls (wordOf i) W2 HW2.out
        rw [ofW_word hi1 hlt] at cf
        by_cases hE : wordOf i = s
        · have NX : Hid ((i : Int) = ofT s (i + 1)) := Lib.hid (by rw [ST.out, if_pos hE])
          have ts := toList_self s
          rw [hE] at hc cf
          clear hE
          go_wp2_with fail
          refine cf.mono ?_
          rintro e w4 ⟨rfl, rfl⟩
          go_wp2_with fail
          go_round
          case rel => exact ⟨i + 1, by omega, by omega, by go_num, by rw [← NX.out]⟩
          case measure => simp [intOf]; omega
        · have NX : Hid (ofT s i = ofT s (i + 1)) := Lib.hid (by rw [ST.out, if_neg hE])
          have ts := toList_ne hE
          generalize wordOf i = wi at *
          clear hE
          go_wp2_with fail
          refine cf.mono ?_
          rintro e w4 ⟨rfl, rfl⟩
          go_wp2_with fail
          go_round
          case rel => exact ⟨i + 1, by omega, by omega, by go_num, by rw [← NX.out]⟩
          case measure => simp [intOf]; omega
      · obtain rfl : i = 5 := by omega
        rw [ofT_all]
        have ts := toList_self (wordOf (j : Int))
        generalize ofW s = os at *
        generalize wordOf (j : Int) = wk at *
        clear WT
        go_wp2_with fail
        refine cw.mono ?_
        rintro e w4 ⟨rfl, rfl⟩
        go_wp2_with fail
        refine co.mono ?_
        rintro e w4 ⟨rfl, rfl⟩
        go_wp2_with fail
        go_ret
        exact ⟨rfl, by rw [HB.out]; exact B2.out⟩
  · have u0 : decide ((0 : Int) ≤ k) = false := decide_eq_false (by omega)
    have WE : Hid (wordOf k = ⟨#[]⟩) := Lib.hid (by simp [wordOf, show ¬ k = 1 by omega, show ¬ k = 2 by omega, show ¬ k = 3 by omega, show ¬ k = 4 by omega])
    go_enter Tryd.func3, Tryd.ntmps3
    go_wp2_with fail
    refine ch.mono ?_
    rintro e w1 ⟨rfl, hb1⟩
    have B1 : Hid (Below B w w1) := Lib.hid (by rw [HB.out] at hb1; exact hb1)
    clear hb1 ch
    have BA : Below w1.heap.size w1 (w1.alloc (.cells #[.string ⟨#[]⟩, .string ⟨#[99, 111, 117, 110, 116]⟩, .string ⟨#[115, 117, 109]⟩, .string ⟨#[109, 105, 110]⟩, .string ⟨#[109, 97, 120]⟩] 9)) := (Below.refl _ _).alloc (Nat.le_refl _) _
    have B2 : Hid (Below B w (w1.alloc (.cells #[.string ⟨#[]⟩, .string ⟨#[99, 111, 117, 110, 116]⟩, .string ⟨#[115, 117, 109]⟩, .string ⟨#[109, 105, 110]⟩, .string ⟨#[109, 97, 120]⟩] 9))) := Lib.hid (B1.out.trans (BA.mono (by have := B1.out.size; rw [HB.out] at this; exact this)))
    have WT := Lib.hid (wat_new w1)
    clear BA B1
    go_wp2_with fail
    generalize World.alloc w1 _ = W2 at *
    generalize w1.heap.size = bw at *
    have HW2 := Lib.hid (HW.out.below (by rw [HB.out]; exact B2.out))
    have c7 := make_agg k a cap zs W2 (HR.out.belowB HB.out B2.out) (by omega) HZ.out
    have c8 := made_is k a cap zs W2 (HR.out.belowB HB.out B2.out) (by omega) HZ.out
    have cw := word_calls k W2 HW2.out (by omega)
    have co := of_calls s W2 HW2.out
    generalize mkOf k zs = mo at *
    generalize vOf mo = y at *
    generalize okOf mo = o at *
    refine c7.mono ?_
    rintro e w3 ⟨rfl, rfl⟩
    clear c7
    go_wp2_with fail
    refine c8.mono ?_
    rintro e w3 ⟨rfl, rfl⟩
    clear c8
    go_wp2_with fail
    go_loop [14, 13] (fun i v => ∃ j : Nat, 1 ≤ j ∧ j ≤ 5 ∧ i = .int .i64 j ∧ v = .int .i64 (ofT s j)) (fun i _ => 5 - (intOf i).toNat)
    case atStart => exact ⟨1, by omega, by omega, rfl, by rw [ofT_one]⟩
    case round =>
      obtain ⟨i, hi1, hi5, rfl, rfl⟩ := hrel
      by_cases hlt : i ≤ 4
      · have hc := WT.out i hlt
        have ST := Lib.hid (ofT_step (s := s) hi1)
        have cf := of_calls (wordOf i) W2 HW2.out
        rw [ofW_word hi1 hlt] at cf
        by_cases hE : wordOf i = s
        · have NX : Hid ((i : Int) = ofT s (i + 1)) := Lib.hid (by rw [ST.out, if_pos hE])
          have ts := toList_self s
          rw [hE] at hc cf
          clear hE
          go_wp2_with fail
          refine cf.mono ?_
          rintro e w4 ⟨rfl, rfl⟩
          go_wp2_with fail
          go_round
          case rel => exact ⟨i + 1, by omega, by omega, by go_num, by rw [← NX.out]⟩
          case measure => simp [intOf]; omega
        · have NX : Hid (ofT s i = ofT s (i + 1)) := Lib.hid (by rw [ST.out, if_neg hE])
          have ts := toList_ne hE
          generalize wordOf i = wi at *
          clear hE
          go_wp2_with fail
          refine cf.mono ?_
          rintro e w4 ⟨rfl, rfl⟩
          go_wp2_with fail
          go_round
          case rel => exact ⟨i + 1, by omega, by omega, by go_num, by rw [← NX.out]⟩
          case measure => simp [intOf]; omega
      · obtain rfl : i = 5 := by omega
        rw [ofT_all]
        have ts := toList_self (wordOf k)
        generalize ofW s = os at *
        rw [WE.out] at cw; have ts2 := toList_self ⟨#[]⟩
        clear WT
        go_wp2_with fail
        refine cw.mono ?_
        rintro e w4 ⟨rfl, rfl⟩
        go_wp2_with fail
        refine co.mono ?_
        rintro e w4 ⟨rfl, rfl⟩
        go_wp2_with fail
        go_ret
        exact ⟨rfl, by rw [HB.out]; exact B2.out⟩
  · have u0 : decide ((0 : Int) ≤ k) = true := decide_eq_true (by omega)
    have u1 : decide (k ≤ 4) = false := decide_eq_false (by omega)
    have WE : Hid (wordOf k = ⟨#[]⟩) := Lib.hid (by simp [wordOf, show ¬ k = 1 by omega, show ¬ k = 2 by omega, show ¬ k = 3 by omega, show ¬ k = 4 by omega])
    go_enter Tryd.func3, Tryd.ntmps3
    go_wp2_with fail
    refine ch.mono ?_
    rintro e w1 ⟨rfl, hb1⟩
    have B1 : Hid (Below B w w1) := Lib.hid (by rw [HB.out] at hb1; exact hb1)
    clear hb1 ch
    have BA : Below w1.heap.size w1 (w1.alloc (.cells #[.string ⟨#[]⟩, .string ⟨#[99, 111, 117, 110, 116]⟩, .string ⟨#[115, 117, 109]⟩, .string ⟨#[109, 105, 110]⟩, .string ⟨#[109, 97, 120]⟩] 9)) := (Below.refl _ _).alloc (Nat.le_refl _) _
    have B2 : Hid (Below B w (w1.alloc (.cells #[.string ⟨#[]⟩, .string ⟨#[99, 111, 117, 110, 116]⟩, .string ⟨#[115, 117, 109]⟩, .string ⟨#[109, 105, 110]⟩, .string ⟨#[109, 97, 120]⟩] 9))) := Lib.hid (B1.out.trans (BA.mono (by have := B1.out.size; rw [HB.out] at this; exact this)))
    have WT := Lib.hid (wat_new w1)
    clear BA B1
    go_wp2_with fail
    generalize World.alloc w1 _ = W2 at *
    generalize w1.heap.size = bw at *
    have HW2 := Lib.hid (HW.out.below (by rw [HB.out]; exact B2.out))
    have c7 := make_agg k a cap zs W2 (HR.out.belowB HB.out B2.out) (by omega) HZ.out
    have c8 := made_is k a cap zs W2 (HR.out.belowB HB.out B2.out) (by omega) HZ.out
    have cw := word_calls k W2 HW2.out (by omega)
    have co := of_calls s W2 HW2.out
    generalize mkOf k zs = mo at *
    generalize vOf mo = y at *
    generalize okOf mo = o at *
    refine c7.mono ?_
    rintro e w3 ⟨rfl, rfl⟩
    clear c7
    go_wp2_with fail
    refine c8.mono ?_
    rintro e w3 ⟨rfl, rfl⟩
    clear c8
    go_wp2_with fail
    go_loop [14, 13] (fun i v => ∃ j : Nat, 1 ≤ j ∧ j ≤ 5 ∧ i = .int .i64 j ∧ v = .int .i64 (ofT s j)) (fun i _ => 5 - (intOf i).toNat)
    case atStart => exact ⟨1, by omega, by omega, rfl, by rw [ofT_one]⟩
    case round =>
      obtain ⟨i, hi1, hi5, rfl, rfl⟩ := hrel
      by_cases hlt : i ≤ 4
      · have hc := WT.out i hlt
        have ST := Lib.hid (ofT_step (s := s) hi1)
        have cf := of_calls (wordOf i) W2 HW2.out
        rw [ofW_word hi1 hlt] at cf
        by_cases hE : wordOf i = s
        · have NX : Hid ((i : Int) = ofT s (i + 1)) := Lib.hid (by rw [ST.out, if_pos hE])
          have ts := toList_self s
          rw [hE] at hc cf
          clear hE
          go_wp2_with fail
          refine cf.mono ?_
          rintro e w4 ⟨rfl, rfl⟩
          go_wp2_with fail
          go_round
          case rel => exact ⟨i + 1, by omega, by omega, by go_num, by rw [← NX.out]⟩
          case measure => simp [intOf]; omega
        · have NX : Hid (ofT s i = ofT s (i + 1)) := Lib.hid (by rw [ST.out, if_neg hE])
          have ts := toList_ne hE
          generalize wordOf i = wi at *
          clear hE
          go_wp2_with fail
          refine cf.mono ?_
          rintro e w4 ⟨rfl, rfl⟩
          go_wp2_with fail
          go_round
          case rel => exact ⟨i + 1, by omega, by omega, by go_num, by rw [← NX.out]⟩
          case measure => simp [intOf]; omega
      · obtain rfl : i = 5 := by omega
        rw [ofT_all]
        have ts := toList_self (wordOf k)
        generalize ofW s = os at *
        rw [WE.out] at cw; have ts2 := toList_self ⟨#[]⟩
        clear WT
        go_wp2_with fail
        refine cw.mono ?_
        rintro e w4 ⟨rfl, rfl⟩
        go_wp2_with fail
        refine co.mono ?_
        rintro e w4 ⟨rfl, rfl⟩
        go_wp2_with fail
        go_ret
        exact ⟨rfl, by rw [HB.out]; exact B2.out⟩
end
end Go.Proofs.YtcecndjkfdaaaaaDoor
