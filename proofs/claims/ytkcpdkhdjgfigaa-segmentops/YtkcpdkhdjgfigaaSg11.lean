/- The walk of SegmentNests. -/
import Derived.Test.YtkcpdkhdjgfigaaSg10
namespace Go.Proofs.Ytkcpdkhdjgfigaa
open Go.RowKit
set_option linter.unusedVariables false
set_option linter.unusedSimpArgs false

theorem Row.take {w : World} {a : Option Addr} {zs : List Int} (h : Row w a zs) (k : Nat) : Row w a (zs.take k) := by
  rcases h with rfl | ⟨b, off, rfl, hlt, hc⟩
  · exact .inl (by simp)
  · refine .inr ⟨b, off, rfl, hlt, fun i hi => ?_⟩
    simp at hi
    rw [hc i (by omega), List.getElem?_take_of_lt (by omega)]
theorem prefix_n {w : World} {p : Option Addr} {wd : Nat} {rs : List (List Int)} (h : Seg w p wd rs) (a : Option Addr) (n cap : Nat) (qs : List Int) (hn : qs.length = n) (hQ : Row w a qs) (hl : n ≤ wd) (hwd : wd ≤ 1000) (hrs : rs.length ≤ 1000000) :
    Calls Try.prog 16 #[.pointer p, .slice a n cap] w (PrefixRet rs qs w) := by subst hn; exact prefix_calls h a cap qs hQ hl hwd hrs
theorem prefix_nest {rs : List (List Int)} {q : List Int} {v : Int} {f t a b wd : Nat} (hw : ∀ r ∈ rs, r.length = wd) (hq : q.length < wd) (h : PrefixAt rs q f t) (h' : PrefixAt rs (q ++ [v]) a b) : f ≤ a ∧ b ≤ t := by
  have key : ∀ i, i < rs.length → (rowAt rs i).take (q ++ [v]).length = (rowAt rs i).take q.length ++ [(rowAt rs i)[q.length]?.getD 0] ∧ ((rowAt rs i).take q.length).length = q.length := fun i hi => by
    have hl := hw _ (rowAt_mem hi)
    rw [show (q ++ [v]).length = q.length + 1 by simp]
    exact ⟨take_snoc_at (by omega), by simp; omega⟩
  constructor
  · rcases Nat.lt_or_ge a f with hlt | hge
    · have hi : a < rs.length := by have := h.1; have := h.2.1; omega
      have h1 := (h.2.2 a hi).1.1 hlt
      have h2 := cmpR_snoc_lt ((rowAt rs a)[q.length]?.getD 0) v (key a hi).2 h1
      rw [← (key a hi).1] at h2
      have := (h'.2.2 a hi).1.2 h2
      omega
    · exact hge
  · rcases Nat.lt_or_ge t b with hlt | hge
    · have hi : t < rs.length := by have := h'.2.1; omega
      have h1 : 0 < cmpR ((rowAt rs t).take q.length) q := by
        rcases Int.lt_or_le 0 (cmpR ((rowAt rs t).take q.length) q) with h9 | h9
        · exact h9
        · have := (h.2.2 t hi).2.2 (by omega); omega
      have h2 := cmpR_snoc_gt ((rowAt rs t)[q.length]?.getD 0) v (key t hi).2 h1
      rw [← (key t hi).1] at h2
      exact absurd h2 ((h'.2.2 t hi).2.1 hlt)
    · exact hge
/-- A place at which the next number begins. -/
def Bdry (rs : List (List Int)) (m at_ : Nat) : Prop := at_ < rs.length → ∀ i, i < at_ → cmpR ((rowAt rs i).take m) ((rowAt rs at_).take m) < 0
theorem bdry_start {rs : List (List Int)} {q : List Int} {f t wd : Nat} (hw : ∀ r ∈ rs, r.length = wd) (hq : q.length < wd) (h : PrefixAt rs q f t) (hft : f < t) : Bdry rs (q.length + 1) f := by
  intro hf i hi
  have l1 := hw _ (rowAt_mem (i := i) (rs := rs) (by omega))
  have l2 := hw _ (rowAt_mem hf)
  rw [take_snoc_at (by omega), take_snoc_at (k := q.length) (by omega), h.same (Nat.le_refl f) hft]
  exact cmpR_snoc_lt _ _ (by simp; omega) ((h.2.2 i (by omega)).1.1 hi)
theorem bdry_step {rs : List (List Int)} {q : List Int} {a b : Nat} (h : PrefixAt rs q a b) : Bdry rs q.length b := by
  intro hb i hi
  have h1 := (h.2.2 i (by omega)).2.1 hi
  have h2 : 0 < cmpR ((rowAt rs b).take q.length) q := by
    rcases Int.lt_or_le 0 (cmpR ((rowAt rs b).take q.length) q) with h9 | h9
    · exact h9
    · have := (h.2.2 b hb).2.2 (by omega); omega
  have h3 := (cmpR_neg q _).2 h2
  rcases cmpR_tri ((rowAt rs i).take q.length) q with h4 | h4 | h4
  · exact cmpR_trans h4 h3
  · rw [h4]; exact h3
  · exact absurd h4 h1
theorem bdry_at {rs : List (List Int)} {m at_ a b : Nat} (hl : ∀ i, i < rs.length → ((rowAt rs i).take m).length = m) (hat : at_ < rs.length) (hb : Bdry rs m at_) (h : PrefixAt rs ((rowAt rs at_).take m) a b) : a = at_ ∧ a < b := by
  have hla := hl at_ hat
  have h0 := h.2.2 at_ hat
  rw [hla, cmpR_self] at h0
  have h1 : ¬ at_ < a := fun x => by have := h0.1.1 x; omega
  have h2 : at_ < b := h0.2.2 (by omega)
  have h3 : at_ ≤ a := by
    rcases Nat.lt_or_ge a at_ with hlt | hge
    · have h4 := hb hat a hlt
      have h5 := (h.2.2 a (by omega)).1
      rw [hla] at h5
      have := h5.2 h4; omega
    · exact hge
  omega

theorem width4 (x : Int) : ∃ wd : Nat, 1 ≤ wd ∧ wd ≤ 4 ∧ wrap64 (1 + wrap64 ((IntKind.u64.wrap x).tmod 4)) = (wd : Int) := by
  have h1 : 0 ≤ IntKind.u64.wrap x := by simp [IntKind.wrap, IntKind.bits, IntKind.signed]; omega
  have h2 : (IntKind.u64.wrap x).tmod 4 = IntKind.u64.wrap x % 4 := Int.tmod_eq_emod_of_nonneg h1
  rw [h2]
  obtain ⟨y, hy⟩ : ∃ y, IntKind.u64.wrap x % 4 = y := ⟨_, rfl⟩
  have h3 : 0 ≤ y ∧ y < 4 := by omega
  rw [hy]
  refine ⟨(1 + y).toNat, by omega, by omega, ?_⟩
  have e1 : wrap64 y = y := by unfold wrap64; omega
  rw [e1]
  unfold wrap64; omega
def NestArgs (w : World) (a : Option Addr) (A : List RV) : Prop := RRow w a A ∧ A.length ≤ maxLen ∧ ∀ x ∈ A, x.2.1.length ≤ maxLen
set_option maxRecDepth 100000 in
set_option maxHeartbeats 4000000 in
theorem nests_walk (width : Int) (a : Option Addr) (cap : Nat) (A : List RV) (pa : Option Addr) (pc : Nat) (ps : List Int) (w : World) (hA : NestArgs w a A) (hP : Row w pa ps) (hpl : ps.length ≤ pc) (hpm : ps.length ≤ maxLen) (hw1 : -9223372036854775808 ≤ width) (hw2 : width ≤ 9223372036854775807) :
    Calls Try.prog 6 #[.int .i64 width, .slice a A.length cap, .slice pa ps.length pc] w (TrueRet5 w) := by
  obtain ⟨B, hB⟩ : ∃ B, w.heap.size = B := ⟨_, rfl⟩
  have HB := Lib.hid hB
  unfold maxLen at hpm
  have HA := Lib.hid hA
  have HP := Lib.hid hP
  clear hB hA hP
  cases hf : fewB A with
  | false =>
    have cf : ∀ W, Below B w W → Calls Try.prog 13 #[.slice a A.length cap] W fun e w' => e = .returned (.bool false) ∧ W = w' := fun W hb => by rw [← hf]; exact few_calls a cap A W (HA.out.1.belowB HB.out hb) HA.out.2.1 HA.out.2.2
    clear hf
    go_enter Try.func6, Try.ntmps6
    go_wp2_with (first | (go_at_call 12; refine (head5_calls _).mono ?_; rintro e wh ⟨rfl, hbh⟩; rw [HB.out] at hbh; have BH := Lib.hid hbh; clear hbh) | (go_at_call 13; refine (cf _ BH.out).mono ?_; rintro e w' ⟨rfl, rfl⟩))
    go_ret
    exact ⟨rfl, by rw [HB.out]; exact BH.out⟩
  | true =>
    have FO := Lib.hid (few_ok hf)
    have cf : ∀ W, Below B w W → Calls Try.prog 13 #[.slice a A.length cap] W fun e w' => e = .returned (.bool true) ∧ W = w' := fun W hb => by rw [← hf]; exact few_calls a cap A W (HA.out.1.belowB HB.out hb) HA.out.2.1 HA.out.2.2
    clear hf
    by_cases hp8 : 8 < ps.length
    · go_enter Try.func6, Try.ntmps6
      go_wp2_with (first | (go_at_call 12; refine (head5_calls _).mono ?_; rintro e wh ⟨rfl, hbh⟩; rw [HB.out] at hbh; have BH := Lib.hid hbh; clear hbh) | (go_at_call 13; refine (cf _ BH.out).mono ?_; rintro e w' ⟨rfl, rfl⟩))
      go_ret
      exact ⟨rfl, by rw [HB.out]; exact BH.out⟩
    · have t8 : decide ((8 : Int) < (ps.length : Int)) = false := decide_eq_false (by omega)
      have hp8' : ps.length ≤ 8 := by omega
      clear hp8
      go_enter Try.func6, Try.ntmps6
      go_wp2_with (first | (go_at_call 12; refine (head5_calls _).mono ?_; rintro e wh ⟨rfl, hbh⟩; rw [HB.out] at hbh; have BH := Lib.hid hbh; clear hbh) | (go_at_call 13; refine (cf _ BH.out).mono ?_; rintro e w' ⟨rfl, rfl⟩))
      obtain ⟨wd, hwd1, hwd4, hwd⟩ := width4 width
      rw [hwd]
      clear hwd
      refine (make_calls wd a cap A wh (HA.out.1.belowB HB.out BH.out) (by omega) (by have := FO.out.1; omega) (fun x hx => by have := FO.out.2 x hx; omega)).mono ?_
      rintro e w1 ⟨sp, rfl, hs1, hb1⟩
      have hBh : B ≤ wh.heap.size := by have := BH.out.size; rw [HB.out] at this; exact this
      have B1 : Hid (Below B w w1) := Lib.hid (BH.out.trans (hb1.mono hBh))
      have hrl : (relOf wd (A.map (·.2.1))).length ≤ 60 := by have h1 := rel_len (wd : Int) (A.map (·.2.1)); have h2 := FO.out.1; simp at h1; omega
      generalize relOf (wd : Int) (A.map (·.2.1)) = rs at *
      have S1 := Lib.hid hs1
      have HW := Lib.hid hs1.2.1
      clear hs1 hb1 cf BH
      obtain ⟨k, hk⟩ : ∃ k, min ps.length (wd - 1) = k := ⟨_, rfl⟩
      have hkI : min (ps.length : Int) ((wd : Int) - 1) = (k : Int) := by omega
      have hkw : k < wd := by omega
      have hkp : k ≤ ps.length := by omega
      have KL : Hid ((ps.take k).length = k) := Lib.hid (by simp; omega)
      have HKI := Lib.hid hkI
      have HBr := fun (W : World) (hb : Below B w W) => (show B ≤ W.heap.size by have := hb.size; rw [HB.out] at this; exact this)
      clear hkI
      go_wp2_with fail
      rw [HKI.out, Int.toNat_natCast]
      refine (prefix_n S1.out pa k pc (ps.take k) KL.out ((HP.out.belowB HB.out B1.out).take k) (by omega) (by omega) (by omega)).mono ?_
      rintro e w2 ⟨f, t, rfl, hP2, hb2⟩
      have P2 := Lib.hid hP2
      have S2 := Lib.hid (S1.out.below hb2)
      have B2 : Hid (Below B w w2) := Lib.hid (B1.out.trans (hb2.mono (HBr _ B1.out)))
      have hft : f ≤ t ∧ t ≤ rs.length := ⟨hP2.1, hP2.2.1⟩
      clear hP2 hb2 S1 B1
      by_cases hpk : k < ps.length
      · have TS : Hid (ps.take (k + 1) = ps.take k ++ [ps[k]?.getD 0]) := Lib.hid (take_snoc_at hpk)
        go_wp2_with fail
        refine (prefix_n S2.out pa (k + 1) pc (ps.take (k + 1)) (by simp; omega) ((HP.out.belowB HB.out B2.out).take (k + 1)) (by omega) (by omega) (by omega)).mono ?_
        rintro e w3 ⟨f3, t3, rfl, hP3, hb3⟩
        have S0 := Lib.hid (S2.out.below hb3)
        have B0 : Hid (Below B w w3) := Lib.hid (B2.out.trans (hb3.mono (HBr _ B2.out)))
        have NE : f ≤ f3 ∧ t3 ≤ t := by
          rw [TS.out] at hP3
          exact prefix_nest HW.out (by rw [KL.out]; exact hkw) P2.out hP3
        have h33 : f3 ≤ t3 := hP3.1
        clear hP3 hb3 S2 B2
        have q1 : decide (f3 < f) = false := decide_eq_false (by omega)
        have q2 : decide (t < t3) = false := decide_eq_false (by omega)
        have q3 : decide (t3 < f3) = false := decide_eq_false (by omega)
        go_wp2_with fail
        clear q1 q2 q3
        go_loopw [13] (fun s wr => ∃ u : Nat, s = .int .i64 u ∧ f ≤ u ∧ u ≤ t ∧ Hid (u < t → Bdry rs (k + 1) u) ∧ Hid (Seg wr sp wd rs) ∧ Hid (Below B w wr)) (fun s _ => t - (intOf s).toNat)
        case atStart => exact ⟨f, rfl, Nat.le_refl _, hft.1, Lib.hid (fun h => by have := bdry_start HW.out (by rw [KL.out]; exact hkw) P2.out h; rw [KL.out] at this; exact this), S0, B0⟩
        case round =>
          obtain ⟨u, rfl, hfu, hut, HBd, HSe, HBe⟩ := hrel
          by_cases hlt : u < t
          · have hun : u < rs.length := by omega
            have hlw := HW.out _ (rowAt_mem hun)
            go_wp2_with fail
            refine (segRow_calls HSe.out u hun (by omega) (by omega)).mono ?_
            rintro e w6 ⟨a6, c6, rfl, hr6, hc6, hb6⟩
            have S6 := Lib.hid (HSe.out.below hb6)
            have B6 : Hid (Below B w w6) := Lib.hid (HBe.out.trans (hb6.mono (HBr _ HBe.out)))
            have R6 := Lib.hid hr6
            have TK : Hid (((rowAt rs u).take (k + 1)).length = k + 1) := Lib.hid (by simp; omega)
            rw [hlw] at hc6 ⊢
            clear hr6 hb6 hlw
            have c6' : (k : Int) + 1 ≤ (wd : Int) := by omega
            have t5 : ((wd : Int) != (wd : Int)) = false := by simp
            go_wp2_with fail
            refine (prefix_n S6.out a6 (k + 1) c6 ((rowAt rs u).take (k + 1)) TK.out (R6.out.take (k + 1)) (by omega) (by omega) (by omega)).mono ?_
            rintro e w7 ⟨f7, t7, rfl, hP7, hb7⟩
            have S7 := Lib.hid (S6.out.below hb7)
            have B7 : Hid (Below B w w7) := Lib.hid (B6.out.trans (hb7.mono (HBr _ B6.out)))
            have AT := bdry_at (m := k + 1) (fun i hi => by have := HW.out _ (rowAt_mem hi); simp; omega) hun (HBd.out hlt) hP7
            have ND : t7 ≤ t := by
              have h1 := HW.out _ (rowAt_mem hun)
              have h2 := P2.out.same hfu hlt
              rw [KL.out] at h2
              rw [take_snoc_at (by omega), h2] at hP7
              exact (prefix_nest HW.out (by rw [KL.out]; exact hkw) P2.out hP7).2
            have BD : Hid (t7 < t → Bdry rs (k + 1) t7) := Lib.hid (fun _ => by have := bdry_step hP7; rw [TK.out] at this; exact this)
            obtain ⟨rfl, hft7⟩ := AT
            clear hP7 hb7
            have q1 : ((f7 : Int) != (f7 : Int)) = false := by simp
            have q2 : decide (t7 ≤ f7) = false := decide_eq_false (by omega)
            have q3 : decide (t < t7) = false := decide_eq_false (by omega)
            go_wp2_with fail
            go_roundw
            case rel => exact ⟨t7, rfl, by omega, ND, BD, S7, B7⟩
            case measure => simp [intOf]; omega
          · have q9 : decide (f ≤ t) = true := decide_eq_true hft.1
            have hft1 := hft.1
            have q8 : decide (u < t) = false := decide_eq_false hlt
            go_wp2_with fail
            go_ret
            exact ⟨rfl, by rw [HB.out]; exact HBe.out⟩
      · have t9 : decide (k < ps.length) = false := decide_eq_false hpk
        have S0 := S2
        have B0 := B2
        clear S2 B2
        go_wp2_with fail
        go_loopw [13] (fun s wr => ∃ u : Nat, s = .int .i64 u ∧ f ≤ u ∧ u ≤ t ∧ Hid (u < t → Bdry rs (k + 1) u) ∧ Hid (Seg wr sp wd rs) ∧ Hid (Below B w wr)) (fun s _ => t - (intOf s).toNat)
        case atStart => exact ⟨f, rfl, Nat.le_refl _, hft.1, Lib.hid (fun h => by have := bdry_start HW.out (by rw [KL.out]; exact hkw) P2.out h; rw [KL.out] at this; exact this), S0, B0⟩
        case round =>
          obtain ⟨u, rfl, hfu, hut, HBd, HSe, HBe⟩ := hrel
          by_cases hlt : u < t
          · have hun : u < rs.length := by omega
            have hlw := HW.out _ (rowAt_mem hun)
            go_wp2_with fail
            refine (segRow_calls HSe.out u hun (by omega) (by omega)).mono ?_
            rintro e w6 ⟨a6, c6, rfl, hr6, hc6, hb6⟩
            have S6 := Lib.hid (HSe.out.below hb6)
            have B6 : Hid (Below B w w6) := Lib.hid (HBe.out.trans (hb6.mono (HBr _ HBe.out)))
            have R6 := Lib.hid hr6
            have TK : Hid (((rowAt rs u).take (k + 1)).length = k + 1) := Lib.hid (by simp; omega)
            rw [hlw] at hc6 ⊢
            clear hr6 hb6 hlw
            have c6' : (k : Int) + 1 ≤ (wd : Int) := by omega
            have t5 : ((wd : Int) != (wd : Int)) = false := by simp
            go_wp2_with fail
            refine (prefix_n S6.out a6 (k + 1) c6 ((rowAt rs u).take (k + 1)) TK.out (R6.out.take (k + 1)) (by omega) (by omega) (by omega)).mono ?_
            rintro e w7 ⟨f7, t7, rfl, hP7, hb7⟩
            have S7 := Lib.hid (S6.out.below hb7)
            have B7 : Hid (Below B w w7) := Lib.hid (B6.out.trans (hb7.mono (HBr _ B6.out)))
            have AT := bdry_at (m := k + 1) (fun i hi => by have := HW.out _ (rowAt_mem hi); simp; omega) hun (HBd.out hlt) hP7
            have ND : t7 ≤ t := by
              have h1 := HW.out _ (rowAt_mem hun)
              have h2 := P2.out.same hfu hlt
              rw [KL.out] at h2
              rw [take_snoc_at (by omega), h2] at hP7
              exact (prefix_nest HW.out (by rw [KL.out]; exact hkw) P2.out hP7).2
            have BD : Hid (t7 < t → Bdry rs (k + 1) t7) := Lib.hid (fun _ => by have := bdry_step hP7; rw [TK.out] at this; exact this)
            obtain ⟨rfl, hft7⟩ := AT
            clear hP7 hb7
            have q1 : ((f7 : Int) != (f7 : Int)) = false := by simp
            have q2 : decide (t7 ≤ f7) = false := decide_eq_false (by omega)
            have q3 : decide (t < t7) = false := decide_eq_false (by omega)
            go_wp2_with fail
            go_roundw
            case rel => exact ⟨t7, rfl, by omega, ND, BD, S7, B7⟩
            case measure => simp [intOf]; omega
          · have q9 : decide (f ≤ t) = true := decide_eq_true hft.1
            have hft1 := hft.1
            have q8 : decide (u < t) = false := decide_eq_false hlt
            go_wp2_with fail
            go_ret
            exact ⟨rfl, by rw [HB.out]; exact HBe.out⟩
end Go.Proofs.Ytkcpdkhdjgfigaa
