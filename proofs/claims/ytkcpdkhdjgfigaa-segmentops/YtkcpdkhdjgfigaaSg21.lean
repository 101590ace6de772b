/- The walk of SegmentLaws. Written by mksg21.py. -/
import Derived.Test.YtkcpdkhdjgfigaaSg20
import Derived.Test.YtkcpdkhdjgfigaaSg13
namespace Go.Proofs.Ytkcpdkhdjgfigaa
open Go.RowKit
set_option linter.unusedVariables false
set_option linter.unusedSimpArgs false

/-- A relation of at most n rows. -/
def SB (n : Nat) (w : World) (p : Option Addr) (wd : Nat) (xs : List (List Int)) : Prop := Seg w p wd xs ∧ xs.length ≤ n
theorem SB.below {n : Nat} {w w' : World} {p : Option Addr} {wd : Nat} {xs : List (List Int)} (h : SB n w p wd xs) (hb : Below w.heap.size w w') : SB n w' p wd xs := ⟨h.1.below hb, h.2⟩
theorem SB.drewN {n : Nat} {w : World} {p : Option Addr} {wd : Nat} {xs : List (List Int)} (h : SB n w p wd xs) (q : Nat) : SB n (w.drewN q) p wd xs := ⟨h.1.drewN q, h.2⟩
def BRet (n : Nat) (w : World) (wd : Nat) (xs : List (List Int)) (e : Ending) (w' : World) : Prop := ∃ p, e = .returned (.pointer p) ∧ SB n w' p wd xs ∧ Below w.heap.size w w'
theorem or_b {n m : Nat} {w : World} {p o : Option Addr} {wd : Nat} {xs ys : List (List Int)} (h : SB n w p wd xs) (h' : SB m w o wd ys) (hwd : wd ≤ 1000) (hn : n + m ≤ 1000) : Calls Try.prog 21 #[.pointer p, .pointer o] w (BRet (n + m) w wd (orR xs ys)) :=
  (or_calls h.1 h'.1 hwd (by have := h.2; have := h'.2; omega)).mono fun e w' ⟨r, h1, h2, h3⟩ => ⟨r, h1, ⟨h2, Nat.le_trans (or_len ys xs) (by have := h.2; have := h'.2; omega)⟩, h3⟩
theorem and_b {n m : Nat} {w : World} {p o : Option Addr} {wd : Nat} {xs ys : List (List Int)} (h : SB n w p wd xs) (h' : SB m w o wd ys) (hwd : wd ≤ 1000) (hn : n + m ≤ 1000) : Calls Try.prog 22 #[.pointer p, .pointer o] w (BRet n w wd (andR xs ys)) :=
  (and_calls h.1 h'.1 hwd (by have := h.2; omega) (by have := h'.2; omega)).mono fun e w' ⟨r, h1, h2, h3⟩ => ⟨r, h1, ⟨h2, Nat.le_trans (List.length_filter_le _ _) h.2⟩, h3⟩
theorem minus_b {n m : Nat} {w : World} {p o : Option Addr} {wd : Nat} {xs ys : List (List Int)} (h : SB n w p wd xs) (h' : SB m w o wd ys) (hwd : wd ≤ 1000) (hn : n + m ≤ 1000) : Calls Try.prog 23 #[.pointer p, .pointer o] w (BRet n w wd (minusR xs ys)) :=
  (minus_calls h.1 h'.1 hwd (by have := h.2; omega) (by have := h'.2; omega)).mono fun e w' ⟨r, h1, h2, h3⟩ => ⟨r, h1, ⟨h2, Nat.le_trans (List.length_filter_le _ _) h.2⟩, h3⟩
theorem same_b {n m : Nat} {w : World} {p o : Option Addr} {wd : Nat} {xs ys : List (List Int)} (h : SB n w p wd xs) (h' : SB m w o wd ys) (hwd : wd ≤ 1000) (hn : n + m ≤ 1000) (e : xs = ys) : Calls Try.prog 24 #[.pointer p, .pointer o] w (Quiet (.bool true) w) := by
  have := same_calls h.1 h'.1 (by have := h.2; omega) (by have := h'.2; omega) hwd hwd
  rw [decide_eq_true e] at this
  exact this

theorem law1 {x y : List (List Int)} (hx : SortedR x) (hy : SortedR y) : orR x y = orR y x := sorted_ext (or_sorted hx y) (or_sorted hy x) fun r => by rw [mem_or hx, mem_or hy]; exact Or.comm
theorem law2 {x y : List (List Int)} (hx : SortedR x) (hy : SortedR y) : andR x y = andR y x := sorted_ext (and_sorted hx y) (and_sorted hy x) fun r => by rw [mem_and, mem_and]; exact And.comm
theorem law3 {x : List (List Int)} (hx : SortedR x) : orR x x = x := sorted_ext (or_sorted hx x) hx fun r => by rw [mem_or hx]; simp
theorem law4 {x : List (List Int)} (y : List (List Int)) (hx : SortedR x) : orR (minusR x y) (andR x y) = x := sorted_ext (or_sorted (minus_sorted hx y) _) hx fun r => by
  rw [mem_or (minus_sorted hx y), mem_and, mem_minus]; by_cases h : r ∈ y <;> simp [h]
theorem law5 {x y z : List (List Int)} (hx : SortedR x) (hy : SortedR y) : orR (orR x y) z = orR x (orR y z) := sorted_ext (or_sorted (or_sorted hx y) z) (or_sorted hx _) fun r => by
  rw [mem_or (or_sorted hx y), mem_or hx, mem_or hx, mem_or hy]; exact or_assoc
theorem law6 {x y z : List (List Int)} (hx : SortedR x) (hy : SortedR y) : minusR x (orR y z) = minusR (minusR x y) z := sorted_ext (minus_sorted hx _) (minus_sorted (minus_sorted hx y) z) fun r => by
  rw [mem_minus, mem_minus, mem_minus, mem_or hy]; by_cases h1 : r ∈ y <;> by_cases h2 : r ∈ z <;> simp [h1, h2]
theorem law7 {x y z : List (List Int)} (hx : SortedR x) (hy : SortedR y) : andR x (orR y z) = orR (andR x y) (andR x z) := sorted_ext (and_sorted hx _) (or_sorted (and_sorted hx y) _) fun r => by
  rw [mem_and, mem_or hy, mem_or (and_sorted hx y), mem_and, mem_and]; by_cases h1 : r ∈ x <;> simp [h1]
theorem law8 (x : List (List Int)) : (minusR x x).length = 0 := by
  unfold minusR; rw [List.length_eq_zero_iff, List.filter_eq_nil_iff]; intro r hr; simp [hr]
theorem few_w {w W : World} {B : Nat} {a : Option Addr} {A : List RV} (cap : Nat) (h : NestArgs w a A) (hB : w.heap.size = B) (hb : Below B w W) : Calls Try.prog 13 #[.slice a A.length cap] W fun e w' => e = .returned (.bool (fewB A)) ∧ W = w' :=
  few_calls a cap A W (h.1.belowB hB hb) h.2.1 h.2.2
theorem make_w {w W : World} {B : Nat} {a : Option Addr} {A : List RV} (cap wd : Nat) (h : NestArgs w a A) (hB : w.heap.size = B) (hb : Below B w W) (hf : A.length ≤ 60 ∧ ∀ x ∈ A, x.2.1.length ≤ 8) (hwd : wd ≤ 1000) : Calls Try.prog 15 #[.int .i64 wd, .slice a A.length cap] W (BRet 60 W wd (relOf wd (A.map (·.2.1)))) :=
  (make_calls wd a cap A W (h.1.belowB hB hb) hwd (by omega) (fun x hx => by have := hf.2 x hx; omega)).mono fun e w' ⟨p, h1, h2, h3⟩ => ⟨p, h1, ⟨h2, Nat.le_trans (rel_len _ _) (by simp; exact hf.1)⟩, h3⟩
set_option maxRecDepth 100000 in
set_option maxHeartbeats 4000000 in
theorem laws_few1 (width : Int) (a b c : Option Addr) (ca cb cc : Nat) (A1 A2 A3 : List RV) (w : World) (h1 : NestArgs w a A1) (h2 : NestArgs w b A2) (h3 : NestArgs w c A3) (hf1 : fewB A1 = false) :
    Calls Try.prog 5 #[.int .i64 width, .slice a A1.length ca, .slice b A2.length cb, .slice c A3.length cc] w (TrueRet5 w) := by
  obtain ⟨B, hB⟩ : ∃ B, w.heap.size = B := ⟨_, rfl⟩
  have HB := Lib.hid hB
  have H1 := Lib.hid h1
  have H2 := Lib.hid h2
  have H3 := Lib.hid h3
  clear h1 h2 h3 hB
  go_enter Try.func5, Try.ntmps5
  go_wp2_with fail
  refine (head5_calls _).mono ?_
  rintro e wh ⟨rfl, hbh⟩
  rw [HB.out] at hbh
  have BH := Lib.hid hbh
  clear hbh
  have cf1 := few_w ca H1.out HB.out BH.out
  rw [hf1] at cf1
  go_wp2_with fail
  refine cf1.mono ?_
  rintro e w' ⟨rfl, rfl⟩
  clear cf1
  go_wp2_with fail
  go_ret
  exact ⟨rfl, by rw [HB.out]; exact BH.out⟩
set_option maxRecDepth 100000 in
set_option maxHeartbeats 4000000 in
theorem laws_few2 (width : Int) (a b c : Option Addr) (ca cb cc : Nat) (A1 A2 A3 : List RV) (w : World) (h1 : NestArgs w a A1) (h2 : NestArgs w b A2) (h3 : NestArgs w c A3) (hf1 : fewB A1 = true) (hf2 : fewB A2 = false) :
    Calls Try.prog 5 #[.int .i64 width, .slice a A1.length ca, .slice b A2.length cb, .slice c A3.length cc] w (TrueRet5 w) := by
  obtain ⟨B, hB⟩ : ∃ B, w.heap.size = B := ⟨_, rfl⟩
  have HB := Lib.hid hB
  have H1 := Lib.hid h1
  have H2 := Lib.hid h2
  have H3 := Lib.hid h3
  clear h1 h2 h3 hB
  go_enter Try.func5, Try.ntmps5
  go_wp2_with fail
  refine (head5_calls _).mono ?_
  rintro e wh ⟨rfl, hbh⟩
  rw [HB.out] at hbh
  have BH := Lib.hid hbh
  clear hbh
  have cf1 := few_w ca H1.out HB.out BH.out
  rw [hf1] at cf1
  go_wp2_with fail
  refine cf1.mono ?_
  rintro e w' ⟨rfl, rfl⟩
  clear cf1
  have cf2 := few_w cb H2.out HB.out BH.out
  rw [hf2] at cf2
  go_wp2_with fail
  refine cf2.mono ?_
  rintro e w' ⟨rfl, rfl⟩
  clear cf2
  go_wp2_with fail
  go_ret
  exact ⟨rfl, by rw [HB.out]; exact BH.out⟩
set_option maxRecDepth 100000 in
set_option maxHeartbeats 4000000 in
theorem laws_few3 (width : Int) (a b c : Option Addr) (ca cb cc : Nat) (A1 A2 A3 : List RV) (w : World) (h1 : NestArgs w a A1) (h2 : NestArgs w b A2) (h3 : NestArgs w c A3) (hf1 : fewB A1 = true) (hf2 : fewB A2 = true) (hf3 : fewB A3 = false) :
    Calls Try.prog 5 #[.int .i64 width, .slice a A1.length ca, .slice b A2.length cb, .slice c A3.length cc] w (TrueRet5 w) := by
  obtain ⟨B, hB⟩ : ∃ B, w.heap.size = B := ⟨_, rfl⟩
  have HB := Lib.hid hB
  have H1 := Lib.hid h1
  have H2 := Lib.hid h2
  have H3 := Lib.hid h3
  clear h1 h2 h3 hB
  go_enter Try.func5, Try.ntmps5
  go_wp2_with fail
  refine (head5_calls _).mono ?_
  rintro e wh ⟨rfl, hbh⟩
  rw [HB.out] at hbh
  have BH := Lib.hid hbh
  clear hbh
  have cf1 := few_w ca H1.out HB.out BH.out
  rw [hf1] at cf1
  go_wp2_with fail
  refine cf1.mono ?_
  rintro e w' ⟨rfl, rfl⟩
  clear cf1
  have cf2 := few_w cb H2.out HB.out BH.out
  rw [hf2] at cf2
  go_wp2_with fail
  refine cf2.mono ?_
  rintro e w' ⟨rfl, rfl⟩
  clear cf2
  have cf3 := few_w cc H3.out HB.out BH.out
  rw [hf3] at cf3
  go_wp2_with fail
  refine cf3.mono ?_
  rintro e w' ⟨rfl, rfl⟩
  clear cf3
  go_wp2_with fail
  go_ret
  exact ⟨rfl, by rw [HB.out]; exact BH.out⟩
set_option maxRecDepth 100000 in
set_option maxHeartbeats 4000000 in
theorem laws_full (width : Int) (a b c : Option Addr) (ca cb cc : Nat) (A1 A2 A3 : List RV) (w : World) (h1 : NestArgs w a A1) (h2 : NestArgs w b A2) (h3 : NestArgs w c A3) (hf1 : fewB A1 = true) (hf2 : fewB A2 = true) (hf3 : fewB A3 = true) :
    Calls Try.prog 5 #[.int .i64 width, .slice a A1.length ca, .slice b A2.length cb, .slice c A3.length cc] w (TrueRet5 w) := by
  obtain ⟨B, hB⟩ : ∃ B, w.heap.size = B := ⟨_, rfl⟩
  have HB := Lib.hid hB
  have H1 := Lib.hid h1
  have H2 := Lib.hid h2
  have H3 := Lib.hid h3
  have F1 := Lib.hid (few_ok hf1)
  have F2 := Lib.hid (few_ok hf2)
  have F3 := Lib.hid (few_ok hf3)
  obtain ⟨wd, hwd4, hwd⟩ := width5 width
  have HWD := Lib.hid hwd
  have hwd1 : wd ≤ 1000 := by omega
  clear h1 h2 h3 hB hwd
  go_enter Try.func5, Try.ntmps5
  go_wp2_with fail
  refine (head5_calls _).mono ?_
  rintro e W0 ⟨rfl, hbh⟩
  rw [HB.out] at hbh
  have BH := Lib.hid hbh
  clear hbh
  have cf1 := few_w ca H1.out HB.out BH.out
  rw [hf1] at cf1
  go_wp2_with fail
  refine cf1.mono ?_
  rintro e w' ⟨rfl, rfl⟩
  clear cf1
  have cf2 := few_w cb H2.out HB.out BH.out
  rw [hf2] at cf2
  go_wp2_with fail
  refine cf2.mono ?_
  rintro e w' ⟨rfl, rfl⟩
  clear cf2
  have cf3 := few_w cc H3.out HB.out BH.out
  rw [hf3] at cf3
  go_wp2_with fail
  refine cf3.mono ?_
  rintro e w' ⟨rfl, rfl⟩
  clear cf3
  have BW0 := BH
  clear BH hf1 hf2 hf3
  go_wp2_with fail
  rw [HWD.out]
  refine (make_w ca wd H1.out HB.out BW0.out F1.out hwd1).mono ?_
  rintro e W1 ⟨px, rfl, hs, hb⟩
  have Sx := Lib.hid hs
  have BW1 := Lib.hid (BW0.out.trans (hb.mono (show B ≤ W0.heap.size by have := BW0.out.size; rw [HB.out] at this; exact this)))
  clear hs hb BW0
  go_wp2_with fail
  refine (make_w cb wd H2.out HB.out BW1.out F2.out hwd1).mono ?_
  rintro e W2 ⟨py, rfl, hs, hb⟩
  replace Sx := Lib.hid (Sx.out.below hb)
  have Sy := Lib.hid hs
  have BW2 := Lib.hid (BW1.out.trans (hb.mono (show B ≤ W1.heap.size by have := BW1.out.size; rw [HB.out] at this; exact this)))
  clear hs hb BW1
  go_wp2_with fail
  refine (make_w cc wd H3.out HB.out BW2.out F3.out hwd1).mono ?_
  rintro e W3 ⟨pz, rfl, hs, hb⟩
  replace Sx := Lib.hid (Sx.out.below hb)
  replace Sy := Lib.hid (Sy.out.below hb)
  have Sz := Lib.hid hs
  have BW3 := Lib.hid (BW2.out.trans (hb.mono (show B ≤ W2.heap.size by have := BW2.out.size; rw [HB.out] at this; exact this)))
  clear hs hb BW2
  have QX := Lib.hid Sx.out.1.1
  have QY := Lib.hid Sy.out.1.1
  have QZ := Lib.hid Sz.out.1.1
  generalize relOf (wd : Int) (A1.map (·.2.1)) = X at *
  generalize relOf (wd : Int) (A2.map (·.2.1)) = Y at *
  generalize relOf (wd : Int) (A3.map (·.2.1)) = Z at *
  go_wp2_with fail
  refine (or_b Sx.out Sy.out hwd1 (by omega)).mono ?_
  rintro e W4 ⟨pa1, rfl, hs, hb⟩
  replace Sx := Lib.hid (Sx.out.below hb)
  replace Sy := Lib.hid (Sy.out.below hb)
  replace Sz := Lib.hid (Sz.out.below hb)
  have Sa1 := Lib.hid hs
  have BW4 := Lib.hid (BW3.out.trans (hb.mono (show B ≤ W3.heap.size by have := BW3.out.size; rw [HB.out] at this; exact this)))
  clear hs hb BW3
  go_wp2_with fail
  refine (or_b Sy.out Sx.out hwd1 (by omega)).mono ?_
  rintro e W5 ⟨pa2, rfl, hs, hb⟩
  replace Sx := Lib.hid (Sx.out.below hb)
  replace Sy := Lib.hid (Sy.out.below hb)
  replace Sz := Lib.hid (Sz.out.below hb)
  replace Sa1 := Lib.hid (Sa1.out.below hb)
  have Sa2 := Lib.hid hs
  have BW5 := Lib.hid (BW4.out.trans (hb.mono (show B ≤ W4.heap.size by have := BW4.out.size; rw [HB.out] at this; exact this)))
  clear hs hb BW4
  go_wp2_with fail
  refine (same_b Sa1.out Sa2.out hwd1 (by omega) (law1 QX.out QY.out)).mono ?_
  rintro e W6 ⟨rfl, q6, hq⟩
  clear Sa1
  clear Sa2
  replace Sx : Hid (SB _ W6 _ _ _) := Lib.hid (by rw [hq]; exact Sx.out.drewN q6)
  replace Sy : Hid (SB _ W6 _ _ _) := Lib.hid (by rw [hq]; exact Sy.out.drewN q6)
  replace Sz : Hid (SB _ W6 _ _ _) := Lib.hid (by rw [hq]; exact Sz.out.drewN q6)
  have BW6 : Hid (Below B w W6) := Lib.hid (by rw [hq]; exact below_drewN BW5.out q6)
  clear hq BW5
  go_wp2_with fail
  refine (and_b Sx.out Sy.out hwd1 (by omega)).mono ?_
  rintro e W7 ⟨pa1, rfl, hs, hb⟩
  replace Sx := Lib.hid (Sx.out.below hb)
  replace Sy := Lib.hid (Sy.out.below hb)
  replace Sz := Lib.hid (Sz.out.below hb)
  have Sa1 := Lib.hid hs
  have BW7 := Lib.hid (BW6.out.trans (hb.mono (show B ≤ W6.heap.size by have := BW6.out.size; rw [HB.out] at this; exact this)))
  clear hs hb BW6
  go_wp2_with fail
  refine (and_b Sy.out Sx.out hwd1 (by omega)).mono ?_
  rintro e W8 ⟨pa2, rfl, hs, hb⟩
  replace Sx := Lib.hid (Sx.out.below hb)
  replace Sy := Lib.hid (Sy.out.below hb)
  replace Sz := Lib.hid (Sz.out.below hb)
  replace Sa1 := Lib.hid (Sa1.out.below hb)
  have Sa2 := Lib.hid hs
  have BW8 := Lib.hid (BW7.out.trans (hb.mono (show B ≤ W7.heap.size by have := BW7.out.size; rw [HB.out] at this; exact this)))
  clear hs hb BW7
  go_wp2_with fail
  refine (same_b Sa1.out Sa2.out hwd1 (by omega) (law2 QX.out QY.out)).mono ?_
  rintro e W9 ⟨rfl, q9, hq⟩
  clear Sa1
  clear Sa2
  replace Sx : Hid (SB _ W9 _ _ _) := Lib.hid (by rw [hq]; exact Sx.out.drewN q9)
  replace Sy : Hid (SB _ W9 _ _ _) := Lib.hid (by rw [hq]; exact Sy.out.drewN q9)
  replace Sz : Hid (SB _ W9 _ _ _) := Lib.hid (by rw [hq]; exact Sz.out.drewN q9)
  have BW9 : Hid (Below B w W9) := Lib.hid (by rw [hq]; exact below_drewN BW8.out q9)
  clear hq BW8
  go_wp2_with fail
  refine (or_b Sx.out Sx.out hwd1 (by omega)).mono ?_
  rintro e W10 ⟨pa1, rfl, hs, hb⟩
  replace Sx := Lib.hid (Sx.out.below hb)
  replace Sy := Lib.hid (Sy.out.below hb)
  replace Sz := Lib.hid (Sz.out.below hb)
  have Sa1 := Lib.hid hs
  have BW10 := Lib.hid (BW9.out.trans (hb.mono (show B ≤ W9.heap.size by have := BW9.out.size; rw [HB.out] at this; exact this)))
  clear hs hb BW9
  go_wp2_with fail
  refine (same_b Sa1.out Sx.out hwd1 (by omega) (law3 QX.out)).mono ?_
  rintro e W11 ⟨rfl, q11, hq⟩
  clear Sa1
  replace Sx : Hid (SB _ W11 _ _ _) := Lib.hid (by rw [hq]; exact Sx.out.drewN q11)
  replace Sy : Hid (SB _ W11 _ _ _) := Lib.hid (by rw [hq]; exact Sy.out.drewN q11)
  replace Sz : Hid (SB _ W11 _ _ _) := Lib.hid (by rw [hq]; exact Sz.out.drewN q11)
  have BW11 : Hid (Below B w W11) := Lib.hid (by rw [hq]; exact below_drewN BW10.out q11)
  clear hq BW10
  go_wp2_with fail
  refine (minus_b Sx.out Sy.out hwd1 (by omega)).mono ?_
  rintro e W12 ⟨pa1, rfl, hs, hb⟩
  replace Sx := Lib.hid (Sx.out.below hb)
  replace Sy := Lib.hid (Sy.out.below hb)
  replace Sz := Lib.hid (Sz.out.below hb)
  have Sa1 := Lib.hid hs
  have BW12 := Lib.hid (BW11.out.trans (hb.mono (show B ≤ W11.heap.size by have := BW11.out.size; rw [HB.out] at this; exact this)))
  clear hs hb BW11
  go_wp2_with fail
  refine (and_b Sx.out Sy.out hwd1 (by omega)).mono ?_
  rintro e W13 ⟨pa2, rfl, hs, hb⟩
  replace Sx := Lib.hid (Sx.out.below hb)
  replace Sy := Lib.hid (Sy.out.below hb)
  replace Sz := Lib.hid (Sz.out.below hb)
  replace Sa1 := Lib.hid (Sa1.out.below hb)
  have Sa2 := Lib.hid hs
  have BW13 := Lib.hid (BW12.out.trans (hb.mono (show B ≤ W12.heap.size by have := BW12.out.size; rw [HB.out] at this; exact this)))
  clear hs hb BW12
  go_wp2_with fail
  refine (or_b Sa1.out Sa2.out hwd1 (by omega)).mono ?_
  rintro e W14 ⟨pa3, rfl, hs, hb⟩
  replace Sx := Lib.hid (Sx.out.below hb)
  replace Sy := Lib.hid (Sy.out.below hb)
  replace Sz := Lib.hid (Sz.out.below hb)
  replace Sa1 := Lib.hid (Sa1.out.below hb)
  replace Sa2 := Lib.hid (Sa2.out.below hb)
  have Sa3 := Lib.hid hs
  have BW14 := Lib.hid (BW13.out.trans (hb.mono (show B ≤ W13.heap.size by have := BW13.out.size; rw [HB.out] at this; exact this)))
  clear hs hb BW13
  go_wp2_with fail
  refine (same_b Sa3.out Sx.out hwd1 (by omega) (law4 _ QX.out)).mono ?_
  rintro e W15 ⟨rfl, q15, hq⟩
  clear Sa1
  clear Sa2
  clear Sa3
  replace Sx : Hid (SB _ W15 _ _ _) := Lib.hid (by rw [hq]; exact Sx.out.drewN q15)
  replace Sy : Hid (SB _ W15 _ _ _) := Lib.hid (by rw [hq]; exact Sy.out.drewN q15)
  replace Sz : Hid (SB _ W15 _ _ _) := Lib.hid (by rw [hq]; exact Sz.out.drewN q15)
  have BW15 : Hid (Below B w W15) := Lib.hid (by rw [hq]; exact below_drewN BW14.out q15)
  clear hq BW14
  go_wp2_with fail
  refine (or_b Sx.out Sy.out hwd1 (by omega)).mono ?_
  rintro e W16 ⟨pa1, rfl, hs, hb⟩
  replace Sx := Lib.hid (Sx.out.below hb)
  replace Sy := Lib.hid (Sy.out.below hb)
  replace Sz := Lib.hid (Sz.out.below hb)
  have Sa1 := Lib.hid hs
  have BW16 := Lib.hid (BW15.out.trans (hb.mono (show B ≤ W15.heap.size by have := BW15.out.size; rw [HB.out] at this; exact this)))
  clear hs hb BW15
  go_wp2_with fail
  refine (or_b Sa1.out Sz.out hwd1 (by omega)).mono ?_
  rintro e W17 ⟨pa2, rfl, hs, hb⟩
  replace Sx := Lib.hid (Sx.out.below hb)
  replace Sy := Lib.hid (Sy.out.below hb)
  replace Sz := Lib.hid (Sz.out.below hb)
  replace Sa1 := Lib.hid (Sa1.out.below hb)
  have Sa2 := Lib.hid hs
  have BW17 := Lib.hid (BW16.out.trans (hb.mono (show B ≤ W16.heap.size by have := BW16.out.size; rw [HB.out] at this; exact this)))
  clear hs hb BW16
  go_wp2_with fail
  refine (or_b Sy.out Sz.out hwd1 (by omega)).mono ?_
  rintro e W18 ⟨pa3, rfl, hs, hb⟩
  replace Sx := Lib.hid (Sx.out.below hb)
  replace Sy := Lib.hid (Sy.out.below hb)
  replace Sz := Lib.hid (Sz.out.below hb)
  replace Sa1 := Lib.hid (Sa1.out.below hb)
  replace Sa2 := Lib.hid (Sa2.out.below hb)
  have Sa3 := Lib.hid hs
  have BW18 := Lib.hid (BW17.out.trans (hb.mono (show B ≤ W17.heap.size by have := BW17.out.size; rw [HB.out] at this; exact this)))
  clear hs hb BW17
  go_wp2_with fail
  refine (or_b Sx.out Sa3.out hwd1 (by omega)).mono ?_
  rintro e W19 ⟨pa4, rfl, hs, hb⟩
  replace Sx := Lib.hid (Sx.out.below hb)
  replace Sy := Lib.hid (Sy.out.below hb)
  replace Sz := Lib.hid (Sz.out.below hb)
  replace Sa1 := Lib.hid (Sa1.out.below hb)
  replace Sa2 := Lib.hid (Sa2.out.below hb)
  replace Sa3 := Lib.hid (Sa3.out.below hb)
  have Sa4 := Lib.hid hs
  have BW19 := Lib.hid (BW18.out.trans (hb.mono (show B ≤ W18.heap.size by have := BW18.out.size; rw [HB.out] at this; exact this)))
  clear hs hb BW18
  go_wp2_with fail
  refine (same_b Sa2.out Sa4.out hwd1 (by omega) (law5 QX.out QY.out)).mono ?_
  rintro e W20 ⟨rfl, q20, hq⟩
  clear Sa1
  clear Sa2
  clear Sa3
  clear Sa4
  replace Sx : Hid (SB _ W20 _ _ _) := Lib.hid (by rw [hq]; exact Sx.out.drewN q20)
  replace Sy : Hid (SB _ W20 _ _ _) := Lib.hid (by rw [hq]; exact Sy.out.drewN q20)
  replace Sz : Hid (SB _ W20 _ _ _) := Lib.hid (by rw [hq]; exact Sz.out.drewN q20)
  have BW20 : Hid (Below B w W20) := Lib.hid (by rw [hq]; exact below_drewN BW19.out q20)
  clear hq BW19
  go_wp2_with fail
  refine (or_b Sy.out Sz.out hwd1 (by omega)).mono ?_
  rintro e W21 ⟨pa1, rfl, hs, hb⟩
  replace Sx := Lib.hid (Sx.out.below hb)
  replace Sy := Lib.hid (Sy.out.below hb)
  replace Sz := Lib.hid (Sz.out.below hb)
  have Sa1 := Lib.hid hs
  have BW21 := Lib.hid (BW20.out.trans (hb.mono (show B ≤ W20.heap.size by have := BW20.out.size; rw [HB.out] at this; exact this)))
  clear hs hb BW20
  go_wp2_with fail
  refine (minus_b Sx.out Sa1.out hwd1 (by omega)).mono ?_
  rintro e W22 ⟨pa2, rfl, hs, hb⟩
  replace Sx := Lib.hid (Sx.out.below hb)
  replace Sy := Lib.hid (Sy.out.below hb)
  replace Sz := Lib.hid (Sz.out.below hb)
  replace Sa1 := Lib.hid (Sa1.out.below hb)
  have Sa2 := Lib.hid hs
  have BW22 := Lib.hid (BW21.out.trans (hb.mono (show B ≤ W21.heap.size by have := BW21.out.size; rw [HB.out] at this; exact this)))
  clear hs hb BW21
  go_wp2_with fail
  refine (minus_b Sx.out Sy.out hwd1 (by omega)).mono ?_
  rintro e W23 ⟨pa3, rfl, hs, hb⟩
  replace Sx := Lib.hid (Sx.out.below hb)
  replace Sy := Lib.hid (Sy.out.below hb)
  replace Sz := Lib.hid (Sz.out.below hb)
  replace Sa1 := Lib.hid (Sa1.out.below hb)
  replace Sa2 := Lib.hid (Sa2.out.below hb)
  have Sa3 := Lib.hid hs
  have BW23 := Lib.hid (BW22.out.trans (hb.mono (show B ≤ W22.heap.size by have := BW22.out.size; rw [HB.out] at this; exact this)))
  clear hs hb BW22
  go_wp2_with fail
  refine (minus_b Sa3.out Sz.out hwd1 (by omega)).mono ?_
  rintro e W24 ⟨pa4, rfl, hs, hb⟩
  replace Sx := Lib.hid (Sx.out.below hb)
  replace Sy := Lib.hid (Sy.out.below hb)
  replace Sz := Lib.hid (Sz.out.below hb)
  replace Sa1 := Lib.hid (Sa1.out.below hb)
  replace Sa2 := Lib.hid (Sa2.out.below hb)
  replace Sa3 := Lib.hid (Sa3.out.below hb)
  have Sa4 := Lib.hid hs
  have BW24 := Lib.hid (BW23.out.trans (hb.mono (show B ≤ W23.heap.size by have := BW23.out.size; rw [HB.out] at this; exact this)))
  clear hs hb BW23
  go_wp2_with fail
  refine (same_b Sa2.out Sa4.out hwd1 (by omega) (law6 QX.out QY.out)).mono ?_
  rintro e W25 ⟨rfl, q25, hq⟩
  clear Sa1
  clear Sa2
  clear Sa3
  clear Sa4
  replace Sx : Hid (SB _ W25 _ _ _) := Lib.hid (by rw [hq]; exact Sx.out.drewN q25)
  replace Sy : Hid (SB _ W25 _ _ _) := Lib.hid (by rw [hq]; exact Sy.out.drewN q25)
  replace Sz : Hid (SB _ W25 _ _ _) := Lib.hid (by rw [hq]; exact Sz.out.drewN q25)
  have BW25 : Hid (Below B w W25) := Lib.hid (by rw [hq]; exact below_drewN BW24.out q25)
  clear hq BW24
  go_wp2_with fail
  refine (or_b Sy.out Sz.out hwd1 (by omega)).mono ?_
  rintro e W26 ⟨pa1, rfl, hs, hb⟩
  replace Sx := Lib.hid (Sx.out.below hb)
  replace Sy := Lib.hid (Sy.out.below hb)
  replace Sz := Lib.hid (Sz.out.below hb)
  have Sa1 := Lib.hid hs
  have BW26 := Lib.hid (BW25.out.trans (hb.mono (show B ≤ W25.heap.size by have := BW25.out.size; rw [HB.out] at this; exact this)))
  clear hs hb BW25
  go_wp2_with fail
  refine (and_b Sx.out Sa1.out hwd1 (by omega)).mono ?_
  rintro e W27 ⟨pa2, rfl, hs, hb⟩
  replace Sx := Lib.hid (Sx.out.below hb)
  replace Sy := Lib.hid (Sy.out.below hb)
  replace Sz := Lib.hid (Sz.out.below hb)
  replace Sa1 := Lib.hid (Sa1.out.below hb)
  have Sa2 := Lib.hid hs
  have BW27 := Lib.hid (BW26.out.trans (hb.mono (show B ≤ W26.heap.size by have := BW26.out.size; rw [HB.out] at this; exact this)))
  clear hs hb BW26
  go_wp2_with fail
  refine (and_b Sx.out Sy.out hwd1 (by omega)).mono ?_
  rintro e W28 ⟨pa3, rfl, hs, hb⟩
  replace Sx := Lib.hid (Sx.out.below hb)
  replace Sy := Lib.hid (Sy.out.below hb)
  replace Sz := Lib.hid (Sz.out.below hb)
  replace Sa1 := Lib.hid (Sa1.out.below hb)
  replace Sa2 := Lib.hid (Sa2.out.below hb)
  have Sa3 := Lib.hid hs
  have BW28 := Lib.hid (BW27.out.trans (hb.mono (show B ≤ W27.heap.size by have := BW27.out.size; rw [HB.out] at this; exact this)))
  clear hs hb BW27
  go_wp2_with fail
  refine (and_b Sx.out Sz.out hwd1 (by omega)).mono ?_
  rintro e W29 ⟨pa4, rfl, hs, hb⟩
  replace Sx := Lib.hid (Sx.out.below hb)
  replace Sy := Lib.hid (Sy.out.below hb)
  replace Sz := Lib.hid (Sz.out.below hb)
  replace Sa1 := Lib.hid (Sa1.out.below hb)
  replace Sa2 := Lib.hid (Sa2.out.below hb)
  replace Sa3 := Lib.hid (Sa3.out.below hb)
  have Sa4 := Lib.hid hs
  have BW29 := Lib.hid (BW28.out.trans (hb.mono (show B ≤ W28.heap.size by have := BW28.out.size; rw [HB.out] at this; exact this)))
  clear hs hb BW28
  go_wp2_with fail
  refine (or_b Sa3.out Sa4.out hwd1 (by omega)).mono ?_
  rintro e W30 ⟨pa5, rfl, hs, hb⟩
  replace Sx := Lib.hid (Sx.out.below hb)
  replace Sy := Lib.hid (Sy.out.below hb)
  replace Sz := Lib.hid (Sz.out.below hb)
  replace Sa1 := Lib.hid (Sa1.out.below hb)
  replace Sa2 := Lib.hid (Sa2.out.below hb)
  replace Sa3 := Lib.hid (Sa3.out.below hb)
  replace Sa4 := Lib.hid (Sa4.out.below hb)
  have Sa5 := Lib.hid hs
  have BW30 := Lib.hid (BW29.out.trans (hb.mono (show B ≤ W29.heap.size by have := BW29.out.size; rw [HB.out] at this; exact this)))
  clear hs hb BW29
  go_wp2_with fail
  refine (same_b Sa2.out Sa5.out hwd1 (by omega) (law7 QX.out QY.out)).mono ?_
  rintro e W31 ⟨rfl, q31, hq⟩
  clear Sa1
  clear Sa2
  clear Sa3
  clear Sa4
  clear Sa5
  replace Sx : Hid (SB _ W31 _ _ _) := Lib.hid (by rw [hq]; exact Sx.out.drewN q31)
  replace Sy : Hid (SB _ W31 _ _ _) := Lib.hid (by rw [hq]; exact Sy.out.drewN q31)
  replace Sz : Hid (SB _ W31 _ _ _) := Lib.hid (by rw [hq]; exact Sz.out.drewN q31)
  have BW31 : Hid (Below B w W31) := Lib.hid (by rw [hq]; exact below_drewN BW30.out q31)
  clear hq BW30
  go_wp2_with fail
  refine (minus_b Sx.out Sx.out hwd1 (by omega)).mono ?_
  rintro e W32 ⟨pa1, rfl, hs, hb⟩
  replace Sx := Lib.hid (Sx.out.below hb)
  replace Sy := Lib.hid (Sy.out.below hb)
  replace Sz := Lib.hid (Sz.out.below hb)
  have Sa1 := Lib.hid hs
  have BW32 := Lib.hid (BW31.out.trans (hb.mono (show B ≤ W31.heap.size by have := BW31.out.size; rw [HB.out] at this; exact this)))
  clear hs hb BW31
  have cl := segLen_calls Sa1.out.1
  rw [law8] at cl
  go_wp2_with fail
  refine cl.mono ?_
  rintro e w' ⟨rfl, rfl⟩
  go_wp2_with fail
  go_ret
  exact ⟨rfl, by rw [HB.out]; exact BW32.out⟩
theorem laws_walk (width : Int) (a b c : Option Addr) (ca cb cc : Nat) (A1 A2 A3 : List RV) (w : World) (h1 : NestArgs w a A1) (h2 : NestArgs w b A2) (h3 : NestArgs w c A3) :
    Calls Try.prog 5 #[.int .i64 width, .slice a A1.length ca, .slice b A2.length cb, .slice c A3.length cc] w (TrueRet5 w) := by
  cases hf1 : fewB A1 with
  | false => exact laws_few1 width a b c ca cb cc A1 A2 A3 w h1 h2 h3 hf1
  | true =>
    cases hf2 : fewB A2 with
    | false => exact laws_few2 width a b c ca cb cc A1 A2 A3 w h1 h2 h3 hf1 hf2
    | true =>
      cases hf3 : fewB A3 with
      | false => exact laws_few3 width a b c ca cb cc A1 A2 A3 w h1 h2 h3 hf1 hf2 hf3
      | true => exact laws_full width a b c ca cb cc A1 A2 A3 w h1 h2 h3 hf1 hf2 hf3
end Go.Proofs.Ytkcpdkhdjgfigaa
