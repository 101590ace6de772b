/- The walk of IndexBare. Written by mkix10.py. -/
import Derived.Test.YtenlhojdpjedkaaIx9
namespace Go.Proofs.Ytenlhojdpjedkaa
open Go.RowKit
set_option linter.unusedVariables false
set_option linter.unusedSimpArgs false

theorem bare_keys (rs : List (List Int)) : rs.map (fun r => keyL r []) = List.replicate rs.length [] := by
  induction rs with
  | nil => rfl
  | cons r rs ih => rw [List.map_cons, ih]; rfl
theorem bare_rows (n : Nat) : ints (rowsOf (List.replicate n []) []) = ints (List.range n) := by
  unfold rowsOf rowsTo
  rw [List.length_replicate]
  congr 1
  rw [List.filter_eq_self]
  intro i hi
  have hi' : i < n := by simpa using hi
  simp [kyAt, List.getElem?_replicate, hi']
set_option maxRecDepth 100000 in
set_option maxHeartbeats 4000000 in
theorem bare_v0 (width : Int) (a : Option Addr) (ca : Nat) (A : List RV) (ka : Option Addr) (kc : Nat) (κ : List Int) (w : World) (h1 : NestArgs w a A) (hκ : Row w ka κ) (mκ : κ.length ≤ maxLen) (hf1 : fewB A = false) :
    Calls Try.prog 5 #[.int .i64 width, .slice a A.length ca, .slice ka κ.length kc] w (TrueRet5 w) := by
  obtain ⟨B, hB⟩ : ∃ B, w.heap.size = B := ⟨_, rfl⟩
  have HB := Lib.hid hB
  have H1 := Lib.hid h1
  have Hκ := Lib.hid hκ
  unfold maxLen at mκ
  clear h1 hB hκ
  go_enter Try.func5, Try.ntmps5
  go_wp2_with fail
  refine (head7_calls _).mono ?_
  rintro e W0 ⟨rfl, hbh⟩
  rw [HB.out] at hbh
  have BW0 := Lib.hid hbh
  clear hbh
  have cf1 := few_w ca H1.out HB.out BW0.out
  rw [hf1] at cf1
  go_wp2_with fail
  refine cf1.mono ?_
  rintro e w' ⟨rfl, rfl⟩
  clear cf1
  go_wp2_with fail
  go_ret
  exact ⟨rfl, by rw [HB.out]; exact BW0.out⟩
set_option maxRecDepth 100000 in
set_option maxHeartbeats 4000000 in
theorem bare_v1 (width : Int) (a : Option Addr) (ca : Nat) (A : List RV) (ka : Option Addr) (kc : Nat) (κ : List Int) (w : World) (h1 : NestArgs w a A) (hκ : Row w ka κ) (mκ : κ.length ≤ maxLen) (hf1 : fewB A = true) (gκ : 8 < κ.length) :
    Calls Try.prog 5 #[.int .i64 width, .slice a A.length ca, .slice ka κ.length kc] w (TrueRet5 w) := by
  obtain ⟨B, hB⟩ : ∃ B, w.heap.size = B := ⟨_, rfl⟩
  have HB := Lib.hid hB
  have H1 := Lib.hid h1
  have Hκ := Lib.hid hκ
  unfold maxLen at mκ
  clear h1 hB hκ
  have tκ : decide ((8 : Int) < (κ.length : Int)) = true := decide_eq_true (by omega)
  go_enter Try.func5, Try.ntmps5
  go_wp2_with fail
  refine (head7_calls _).mono ?_
  rintro e W0 ⟨rfl, hbh⟩
  rw [HB.out] at hbh
  have BW0 := Lib.hid hbh
  clear hbh
  have cf1 := few_w ca H1.out HB.out BW0.out
  rw [hf1] at cf1
  go_wp2_with fail
  refine cf1.mono ?_
  rintro e w' ⟨rfl, rfl⟩
  clear cf1
  go_wp2_with fail
  go_ret
  exact ⟨rfl, by rw [HB.out]; exact BW0.out⟩
set_option maxRecDepth 100000 in
set_option maxHeartbeats 4000000 in
theorem bare_full (width : Int) (a : Option Addr) (ca : Nat) (A : List RV) (ka : Option Addr) (kc : Nat) (κ : List Int) (w : World) (h1 : NestArgs w a A) (hκ : Row w ka κ) (mκ : κ.length ≤ maxLen) (hf1 : fewB A = true) (sκ : κ.length ≤ 8) :
    Calls Try.prog 5 #[.int .i64 width, .slice a A.length ca, .slice ka κ.length kc] w (TrueRet5 w) := by
  obtain ⟨B, hB⟩ : ∃ B, w.heap.size = B := ⟨_, rfl⟩
  have HB := Lib.hid hB
  have H1 := Lib.hid h1
  have Hκ := Lib.hid hκ
  unfold maxLen at mκ
  clear h1 hB hκ
  have tκ : decide ((8 : Int) < (κ.length : Int)) = false := decide_eq_false (by omega)
  have F1 := Lib.hid (few_ok hf1)
  obtain ⟨wd, hwd4, hwd⟩ := width5 width
  have HWD := Lib.hid hwd
  have hwd1 : wd ≤ 1000 := by omega
  clear hwd
  go_enter Try.func5, Try.ntmps5
  go_wp2_with fail
  refine (head7_calls _).mono ?_
  rintro e W0 ⟨rfl, hbh⟩
  rw [HB.out] at hbh
  have BW0 := Lib.hid hbh
  clear hbh
  have cf1 := few_w ca H1.out HB.out BW0.out
  rw [hf1] at cf1
  go_wp2_with fail
  refine cf1.mono ?_
  rintro e w' ⟨rfl, rfl⟩
  clear cf1
  clear hf1
  go_wp2_with fail
  rw [HWD.out]
  refine (make_w ca wd H1.out HB.out BW0.out F1.out hwd1).mono ?_
  rintro e W1 ⟨p, rfl, hs, hb⟩
  have BW1 := Lib.hid (BW0.out.trans (hb.mono (show B ≤ W0.heap.size by have := BW0.out.size; rw [HB.out] at this; exact this)))
  have S := Lib.hid hs
  clear hs hb BW0
  generalize relOf (wd : Int) (A.map (·.2.1)) = rs at *
  have LR := Lib.hid S.out.2
  have EK : Hid (rs.map (fun r => keyL r []) = List.replicate rs.length []) := Lib.hid (bare_keys rs)
  have cb := build_calls S.out.1 none 0 [] (.inl rfl) (by simp) hwd1 (by have := LR.out; omega)
  rw [EK.out] at cb
  go_wp2_with fail
  refine (cb).mono ?_
  rintro e W2 ⟨g, rfl, hx, hb⟩
  replace S := Lib.hid (S.out.below hb)
  have BW2 := Lib.hid (BW1.out.trans (hb.mono (show B ≤ W1.heap.size by have := BW1.out.size; rw [HB.out] at this; exact this)))
  have X := Lib.hid hx
  clear hb BW1 hx
  have cp := ix_probe X.out none 0 [] (.inl rfl) (by simp)
  rw [bare_rows] at cp
  go_wp2_with fail
  refine (cp).mono ?_
  rintro e W3 ⟨ga, gc, rfl, hr, hb⟩
  clear X
  replace S := Lib.hid (S.out.below hb)
  have BW3 := Lib.hid (BW2.out.trans (hb.mono (show B ≤ W2.heap.size by have := BW2.out.size; rw [HB.out] at this; exact this)))
  have R := Lib.hid hr
  clear hb BW2 hr
  clear cb cp EK
  have hnl : (ints (List.range rs.length)).length ≤ 60 := by have := LR.out; simp [ints]; omega
  have GA : Hid (∀ i, i < (ints (List.range rs.length)).length → (ints (List.range rs.length))[i]?.getD 0 = (i : Int)) := Lib.hid (fun i hi => by simp [ints] at hi; simp [ints, hi])
  have GL : Hid ((ints (List.range rs.length)).length = rs.length) := Lib.hid (by simp [ints])
  generalize ints (List.range rs.length) = G at *
  go_wp2_with fail
  go_loop [33] (fun s => ∃ i : Nat, i ≤ G.length ∧ s = .int .i64 i) (fun s => G.length - (intOf s).toNat)
  case atStart => exact ⟨0, Nat.zero_le _, rfl⟩
  case round =>
    obtain ⟨i, hi, rfl⟩ := hrel
    by_cases hlt : i < G.length
    · obtain ⟨b, off, rfl, _, hc⟩ := R.out.at hlt
      rw [GA.out i hlt] at hc
      go_wp2_with fail
      go_round
      case rel => exact ⟨i + 1, by omega, by go_num⟩
      case measure => simp [intOf]; omega
    · have tl : decide (i < G.length) = false := decide_eq_false hlt
      have e1 : ((G.length : Int) == (rs.length : Int)) = true := by rw [GL.out]; simp
      go_wp2_with fail
      have QN : Hid (Row (W3.alloc (.cells #[.int .i64 0] 3)) (some ⟨W3.heap.size, 0, none⟩) [0]) := Lib.hid (row1_new W3 0 3)
      have hb : Below W3.heap.size W3 (W3.alloc (.cells #[.int .i64 0] 3)) := (Below.refl _ _).alloc (Nat.le_refl _) _
      replace S := Lib.hid (S.out.below hb)
      replace R := Lib.hid (R.out.below hb)
      have BW4 := Lib.hid (BW3.out.trans (hb.mono (show B ≤ W3.heap.size by have := BW3.out.size; rw [HB.out] at this; exact this)))
      clear hb BW3
      generalize World.alloc _ _ = W4 at *
      generalize W3.heap.size = n3 at *
      have cb := build_calls (seg_none _) _ 1 [0] QN.out (by simp) (by omega) (by simp)
      rw [List.map_nil] at cb
      refine (cb).mono ?_
      rintro e W5 ⟨gn, rfl, hx, hb⟩
      clear QN
      replace S := Lib.hid (S.out.below hb)
      replace R := Lib.hid (R.out.below hb)
      have BW5 := Lib.hid (BW4.out.trans (hb.mono (show B ≤ W4.heap.size by have := BW4.out.size; rw [HB.out] at this; exact this)))
      have X := Lib.hid hx
      clear hb BW4 hx
      clear cb
      go_wp2_with fail
      refine (segLen_calls S.out.1).mono ?_
      rintro e w' ⟨rfl, rfl⟩
      have cp := ix_probe X.out ka kc κ (Hκ.out.belowB HB.out BW5.out) (by omega)
      rw [show ints (rowsOf [] κ) = [] from rfl] at cp
      go_wp2_with fail
      refine (cp).mono ?_
      rintro e W6 ⟨gb, gd, rfl, hr, hb⟩
      replace S := Lib.hid (S.out.below hb)
      replace R := Lib.hid (R.out.below hb)
      replace X := Lib.hid (X.out.below hb)
      have BW6 := Lib.hid (BW5.out.trans (hb.mono (show B ≤ W5.heap.size by have := BW5.out.size; rw [HB.out] at this; exact this)))
      clear hb BW5 
      clear cp hr
      go_wp2_with fail
      refine (ix_len X.out).mono ?_
      rintro e w' ⟨rfl, rfl⟩
      go_wp2_with fail
      go_ret
      exact ⟨rfl, by rw [HB.out]; exact BW6.out⟩
theorem bare_walk (width : Int) (a : Option Addr) (ca : Nat) (A : List RV) (ka : Option Addr) (kc : Nat) (κ : List Int) (w : World) (h1 : NestArgs w a A) (hκ : Row w ka κ) (mκ : κ.length ≤ maxLen) :
    Calls Try.prog 5 #[.int .i64 width, .slice a A.length ca, .slice ka κ.length kc] w (TrueRet5 w) := by
  cases hf1 : fewB A with
  | false => exact bare_v0 width a ca A ka kc κ w h1 hκ mκ hf1
  | true =>
    by_cases gκ : 8 < κ.length
    · exact bare_v1 width a ca A ka kc κ w h1 hκ mκ hf1 gκ
    exact bare_full width a ca A ka kc κ w h1 hκ mκ hf1 (by omega)
end Go.Proofs.Ytenlhojdpjedkaa
