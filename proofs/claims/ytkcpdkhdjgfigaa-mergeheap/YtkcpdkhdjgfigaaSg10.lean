/- Contracts of Has, and of the statements' own Few and head. -/
import Derived.Test.YtkcpdkhdjgfigaaSg9
namespace Go.Proofs.Ytkcpdkhdjgfigaa
open Go.RowKit
set_option linter.unusedVariables false
set_option linter.unusedSimpArgs false

theorem prefix_has {rs : List (List Int)} {q : List Int} {f t wd : Nat} (hw : ∀ r ∈ rs, r.length = wd) (h : PrefixAt rs q f t) (hq : q.length = wd) : f < t ↔ q ∈ rs := by
  constructor
  · intro hft
    have hl : f < rs.length := Nat.lt_of_lt_of_le hft h.2.1
    have e := h.same (Nat.le_refl f) hft
    have hm := rowAt_mem hl
    have hlen := hw _ hm
    rw [List.take_of_length_le (by omega)] at e
    rw [← e]; exact hm
  · intro hm
    obtain ⟨i, hi, e⟩ := List.getElem_of_mem hm
    have e' : rowAt rs i = q := by simp [rowAt, hi, e]
    obtain ⟨h1, h2⟩ := h.2.2 i hi
    rw [e', List.take_length, cmpR_self] at h1 h2
    have h3 : ¬ i < f := fun x => by have := h1.1 x; omega
    have h4 : i < t := h2.2 (by omega)
    omega
def BelowB (b : Bool) (w : World) (e : Ending) (w' : World) : Prop := e = .returned (.bool b) ∧ Below w.heap.size w w'

theorem has_calls {w : World} {p : Option Addr} {wd : Nat} {rs : List (List Int)} (h : Seg w p wd rs) (a : Option Addr) (cap : Nat) (qs : List Int) (hQ : Row w a qs) (hq : qs.length ≤ 1000000) (hwd : wd ≤ 1000) (hrs : rs.length ≤ 1000000) :
    Calls Try.prog 17 #[.pointer p, .slice a qs.length cap] w (BelowB (decide (qs ∈ rs)) w) := by
  have cw := segWidth_calls h
  by_cases hl : qs.length = wd
  · have cp := prefix_calls h a cap qs hQ (by omega) hwd hrs
    have HW := Lib.hid h.2.1
    have t1 : ((qs.length : Int) != (wd : Int)) = false := by simp [hl]
    have HL := Lib.hid hl
    clear h hl
    go_enter Try.func17, Try.ntmps17
    go_wp2_with (first | (go_at_call 26; refine cw.mono ?_; rintro e w' ⟨rfl, rfl⟩))
    refine cp.mono ?_
    rintro e w' ⟨f, t, rfl, hP, hb⟩
    have B := Lib.hid hb
    by_cases hft : f < t
    · have R : Hid (decide (qs ∈ rs) = true) := Lib.hid (decide_eq_true ((prefix_has HW.out hP HL.out).1 hft))
      clear hb hP
      go_wp2_with fail
      go_ret
      exact ⟨ret_b R.out.symm, B.out⟩
    · have R : Hid (decide (qs ∈ rs) = false) := Lib.hid (decide_eq_false (fun hm => hft ((prefix_has HW.out hP HL.out).2 hm)))
      have t2 : decide (f < t) = false := decide_eq_false hft
      clear hb hP hft
      go_wp2_with fail
      go_ret
      exact ⟨ret_b R.out.symm, B.out⟩
  · have R : Hid (decide (qs ∈ rs) = false) := Lib.hid (decide_eq_false (fun hm => hl (h.2.1 _ hm)))
    have t1 : ((qs.length : Int) != (wd : Int)) = true := by simp; omega
    clear h
    go_enter Try.func17, Try.ntmps17
    go_wp2_with (first | (go_at_call 26; refine cw.mono ?_; rintro e w' ⟨rfl, rfl⟩))
    go_ret
    exact ⟨ret_b R.out.symm, Below.refl _ _⟩

/-- Few rows, of few numbers. -/
def fewB (A : List RV) : Bool := decide (A.length ≤ 60) && A.all fun x => decide (x.2.1.length ≤ 8)
theorem few_ok {A : List RV} (h : fewB A = true) : A.length ≤ 60 ∧ ∀ x ∈ A, x.2.1.length ≤ 8 := by
  unfold fewB at h
  simp only [Bool.and_eq_true, decide_eq_true_eq, List.all_eq_true] at h
  exact h
theorem few_calls (a : Option Addr) (cap : Nat) (A : List RV) (w : World) (hR : RRow w a A) (hm : A.length ≤ maxLen) (hx : ∀ x ∈ A, x.2.1.length ≤ maxLen) :
    Calls Try.prog 13 #[.slice a A.length cap] w fun e w' => e = .returned (.bool (fewB A)) ∧ w = w' := by
  unfold maxLen at hm
  have HX := Lib.hid hx
  have HR := Lib.hid hR
  clear hx hR
  by_cases h0 : 60 < A.length
  · have R : Hid (fewB A = false) := Lib.hid (by unfold fewB; simp; intro h; omega)
    go_enter Try.func13, Try.ntmps13
    go_wp2_with fail
    go_ret
    exact ⟨ret_b R.out.symm, rfl⟩
  · have t0 : decide ((60 : Int) < (A.length : Int)) = false := decide_eq_false (by omega)
    have hl : A.length ≤ 60 := by omega
    go_enter Try.func13, Try.ntmps13
    go_wp2_with fail
    go_loop [10] (fun s => ∃ k : Nat, k ≤ A.length ∧ s = .int .i64 k ∧ Hid ((A.take k).all (fun x => decide (x.2.1.length ≤ 8)) = true)) (fun s => A.length - (intOf s).toNat)
    case atStart => exact ⟨0, Nat.zero_le _, rfl, Lib.hid rfl⟩
    case round =>
      obtain ⟨k, hk, rfl, HA⟩ := hrel
      by_cases hlt : k < A.length
      · obtain ⟨b, off, rfl, hb, hcell, _, _⟩ := HR.out.at hlt
        have hxl := HX.out _ (atV_mem hlt)
        unfold maxLen at hxl
        have TS : Hid (A.take (k + 1) = A.take k ++ [atV A k]) := Lib.hid (by rw [List.take_succ_eq_append_getElem hlt, atV_eq hlt])
        have MM : Hid (atV A k ∈ A) := Lib.hid (atV_mem hlt)
        obtain ⟨x, hx⟩ : ∃ x, atV A k = x := ⟨_, rfl⟩
        rw [hx] at hcell hxl TS MM
        clear hx
        obtain ⟨xa, xz, xc⟩ := x
        simp only at hcell hxl
        by_cases h8 : 8 < xz.length
        · have R : Hid (fewB A = false) := Lib.hid (by
            cases hf : fewB A with
            | false => rfl
            | true => have := (few_ok hf).2 _ MM.out; simp only at this; omega)
          go_wp2_with fail
          go_ret
          exact ⟨ret_b R.out.symm, rfl⟩
        · have t1 : decide ((8 : Int) < (xz.length : Int)) = false := decide_eq_false (by omega)
          have NX : Hid ((A.take (k + 1)).all (fun x => decide (x.2.1.length ≤ 8)) = true) := Lib.hid (by rw [TS.out, List.all_append, HA.out]; simp; omega)
          clear h8
          go_wp2_with fail
          go_round
          case rel => exact ⟨k + 1, by omega, by go_num, NX⟩
          case measure => simp [intOf]; omega
      · have R : Hid (fewB A = true) := Lib.hid (by
          have := HA.out
          rw [List.take_of_length_le (by omega)] at this
          unfold fewB; rw [this]; simp; omega)
        go_wp2_with fail
        go_ret
        exact ⟨ret_b R.out.symm, rfl⟩

theorem row2 {w : World} {b : Nat} {x y : Int} (h0 : w.cell? ⟨b, 0, none⟩ = some (.int .i64 x)) (h1 : w.cell? ⟨b, 1, none⟩ = some (.int .i64 y)) (hb : b < w.heap.size) : Row w (some ⟨b, 0, none⟩) [x, y] := by
  refine .inr ⟨b, 0, rfl, hb, fun i hi => ?_⟩
  match i, hi with
  | 0, _ => exact h0
  | 1, _ => exact h1
def TrueRet5 (w : World) (e : Ending) (w' : World) : Prop := e = .returned (.bool true) ∧ Below w.heap.size w w'
theorem head_rel : relOf ((2 : Nat) : Int) [[2, 1], [1, 5], [2, 1]] = [[1, 5], [2, 1]] := by decide
theorem head_prefix {f t : Nat} (h : PrefixAt [[1, 5], [2, 1]] [2] f t) : f = 1 ∧ t = 2 := by
  obtain ⟨h1, h2, h3⟩ := h
  have a := h3 0 (by simp)
  have b := h3 1 (by simp)
  simp [rowAt, cmpR] at a b h2
  omega

set_option maxRecDepth 100000 in
set_option maxHeartbeats 4000000 in
theorem head5_calls (w : World) : Calls Try.prog 12 #[] w (TrueRet5 w) := by
  obtain ⟨B, hB⟩ : ∃ B, w.heap.size = B := ⟨_, rfl⟩
  have HB := Lib.hid hB
  go_enter Try.func12, Try.ntmps12
  go_wp2_with fail
  have b4 : Below B w ((((w.alloc (.cells #[.int .i64 2, .int .i64 1] 2)).alloc (.cells #[.int .i64 1, .int .i64 5] 2)).alloc (.cells #[.int .i64 2, .int .i64 1] 2)).alloc (.cells #[.slice (some ⟨B, 0, none⟩) 2 2, .slice (some ⟨B + 1, 0, none⟩) 2 2, .slice (some ⟨B + 1 + 1, 0, none⟩) 2 2] 23)) :=
    ((((Below.refl _ _).alloc (by omega) _).alloc (by simp; omega) _).alloc (by simp; omega) _).alloc (by simp; omega) _
  have R4 : RRow ((((w.alloc (.cells #[.int .i64 2, .int .i64 1] 2)).alloc (.cells #[.int .i64 1, .int .i64 5] 2)).alloc (.cells #[.int .i64 2, .int .i64 1] 2)).alloc (.cells #[.slice (some ⟨B, 0, none⟩) 2 2, .slice (some ⟨B + 1, 0, none⟩) 2 2, .slice (some ⟨B + 1 + 1, 0, none⟩) 2 2] 23)) (some ⟨B + 1 + 1 + 1, 0, none⟩) [(some ⟨B, 0, none⟩, [2, 1], 2), (some ⟨B + 1, 0, none⟩, [1, 5], 2), (some ⟨B + 1 + 1, 0, none⟩, [2, 1], 2)] := by
    refine ⟨.inr ⟨B + 1 + 1 + 1, 0, rfl, by simp; omega, fun i hi => ?_⟩, fun x hx => ?_⟩
    · match i, hi with
      | 0, _ => subst hB; go_simp; rfl
      | 1, _ => subst hB; go_simp; rfl
      | 2, _ => subst hB; go_simp; rfl
    · simp only [List.mem_cons, List.not_mem_nil, or_false] at hx
      rcases hx with rfl | rfl | rfl
      · exact ⟨row2 (by subst hB; go_simp) (by subst hB; go_simp) (by simp; omega), by simp⟩
      · exact ⟨row2 (by subst hB; go_simp) (by subst hB; go_simp) (by simp; omega), by simp⟩
      · exact ⟨row2 (by subst hB; go_simp) (by subst hB; go_simp) (by simp; omega), by simp⟩
  have R4' := Lib.hid R4
  have b4' := Lib.hid b4
  clear R4 b4 hB
  generalize World.alloc (World.alloc (World.alloc (World.alloc _ _) _) _) _ = W at *
  refine (make_calls 2 _ 3 _ W R4'.out (by omega) (by simp) (by simp)).mono ?_
  rintro e w1 ⟨p1, rfl, hs1, hb1⟩
  have hs1' : Seg w1 p1 2 [[1, 5], [2, 1]] := by
    have := hs1
    simp only [List.map_cons, List.map_nil] at this
    rw [head_rel] at this; exact this
  have S1 := Lib.hid hs1'
  have B1 : Hid (Below B w w1) := Lib.hid (b4'.out.trans (hb1.mono (by have := b4'.out.size; rw [HB.out] at this; exact this)))
  clear hs1 hs1' hb1 R4' b4'
  go_wp2_with fail
  have S2 : Hid (Seg (w1.alloc (.cells #[.int .i64 2] 2)) p1 2 [[1, 5], [2, 1]]) := Lib.hid (S1.out.below ((Below.refl _ _).alloc (Nat.le_refl _) _))
  have Q2 : Hid (Row (w1.alloc (.cells #[.int .i64 2] 2)) (some ⟨w1.heap.size, 0, none⟩) [2]) := Lib.hid (.inr ⟨w1.heap.size, 0, rfl, by simp, fun i hi => by
    match i, hi with
    | 0, _ => go_simp⟩)
  have hB1 : Hid (B ≤ w1.heap.size) := Lib.hid (by have := B1.out.size; rw [HB.out] at this; exact this)
  have B2 : Hid (Below B w (w1.alloc (.cells #[.int .i64 2] 2))) := Lib.hid (B1.out.alloc hB1.out _)
  generalize World.alloc _ _ = W2 at *
  generalize w1.heap.size = n1 at *
  refine (prefix_calls S2.out _ 1 [2] Q2.out (by simp) (by omega) (by simp)).mono ?_
  rintro e w3 ⟨f, t, rfl, hP, hb3⟩
  obtain ⟨rfl, rfl⟩ := head_prefix hP
  have S3 := Lib.hid (S2.out.below hb3)
  have B3 : Hid (Below B w w3) := Lib.hid (B2.out.trans (hb3.mono (by have := B2.out.size; rw [HB.out] at this; exact this)))
  clear hP hb3 S2 B2 Q2
  have cl := segLen_calls S3.out
  have cw := segWidth_calls S3.out
  go_wp2_with (first | (go_at_call 25; refine cl.mono ?_; rintro e w' ⟨rfl, rfl⟩) | (go_at_call 26; refine cw.mono ?_; rintro e w' ⟨rfl, rfl⟩))
  refine (segRow_calls S3.out 0 (by simp) (by omega) (by simp)).mono ?_
  rintro e w4 ⟨a4, c4, rfl, hr4, _, hb4⟩
  have S4 := Lib.hid (S3.out.below hb4)
  have B4 : Hid (Below B w w4) := Lib.hid (B3.out.trans (hb4.mono (by have := B3.out.size; rw [HB.out] at this; exact this)))
  clear hr4 hb4 cl cw
  go_wp2_with fail
  refine (segRow_calls S4.out 0 (by simp) (by omega) (by simp)).mono ?_
  rintro e w5 ⟨a5, c5, rfl, hr5, _, hb5⟩
  have B5 : Hid (Below B w w5) := Lib.hid (B4.out.trans (hb5.mono (by have := B4.out.size; rw [HB.out] at this; exact this)))
  obtain ⟨b5, o5, rfl, _, hc5⟩ := hr5.at (k := 1) (by simp [rowAt])
  have hc5' : w5.cell? ⟨b5, o5 + 1, none⟩ = some (.int .i64 5) := hc5
  clear hr5 hb5 hc5
  go_wp2_with fail
  go_ret
  exact ⟨rfl, by rw [HB.out]; exact B5.out⟩
end Go.Proofs.Ytkcpdkhdjgfigaa
