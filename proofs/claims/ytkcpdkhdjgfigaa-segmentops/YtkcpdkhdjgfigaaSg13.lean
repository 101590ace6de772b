/- The walk of SegmentTurns. -/
import Derived.Test.YtkcpdkhdjgfigaaSg12
import Derived.Test.YtkcpdkhdjgfigaaSg11
import Derived.Laws.AppendOwnNone
namespace Go.Proofs.Ytkcpdkhdjgfigaa
open Go.RowKit
set_option linter.unusedVariables false
set_option linter.unusedSimpArgs false

theorem width5 (x : Int) : ∃ wd : Nat, wd ≤ 4 ∧ wrap64 ((IntKind.u64.wrap x).tmod 5) = (wd : Int) := by
  have h1 : 0 ≤ IntKind.u64.wrap x := by simp [IntKind.wrap, IntKind.bits, IntKind.signed]; omega
  have h2 : (IntKind.u64.wrap x).tmod 5 = IntKind.u64.wrap x % 5 := Int.tmod_eq_emod_of_nonneg h1
  rw [h2]
  obtain ⟨y, hy⟩ : ∃ y, IntKind.u64.wrap x % 5 = y := ⟨_, rfl⟩
  have h3 : 0 ≤ y ∧ y < 5 := by omega
  rw [hy]
  exact ⟨y.toNat, by omega, by unfold wrap64; omega⟩
theorem mask16 (x : Int) : ∃ m : Nat, m ≤ 65535 ∧ bits .and .i64 x 65535 = (m : Int) := by
  have e : bits .and .i64 x 65535 = x % 65536 := by
    show IntKind.i64.wrap ((BitVec.ofInt 64 x &&& BitVec.ofInt 64 65535).toNat : Int) = _
    rw [BitVec.toNat_and, BitVec.toNat_ofInt, show (BitVec.ofInt 64 65535).toNat = 2 ^ 16 - 1 by decide, Nat.and_two_pow_sub_one_eq_mod, IntKind.wrap_i64]
    simp only [Nat.reducePow]
    omega
  exact ⟨(x % 65536).toNat, by omega, by rw [e]; omega⟩
theorem rel_same {wd : Int} {T A : List RV} (h : ∀ x ∈ T, x ∈ A) : relOf wd ((T ++ A).map (·.2.1)) = relOf wd (A.map (·.2.1)) := by
  refine rel_unique (rel_sorted _ _) (fun x => ?_)
  rw [mem_rel, List.map_append, List.mem_append]
  constructor
  · rintro ⟨h1 | h1, h2⟩
    · obtain ⟨y, hy, e⟩ := List.mem_map.1 h1
      exact ⟨List.mem_map.2 ⟨y, h y hy, e⟩, h2⟩
    · exact ⟨h1, h2⟩
  · rintro ⟨h1, h2⟩; exact ⟨.inr h1, h2⟩

set_option maxRecDepth 100000 in
set_option maxHeartbeats 4000000 in
theorem turns_walk (width : Int) (a : Option Addr) (cap : Nat) (A : List RV) (at_ : Int) (w : World) (hA : NestArgs w a A) (hcap : a = none → cap = 0) (hw1 : -9223372036854775808 ≤ width) (hw2 : width ≤ 9223372036854775807) :
    Calls Try.prog 7 #[.int .i64 width, .slice a A.length cap, .int .i64 at_] w (TrueRet5 w) := by
  obtain ⟨i0, hi, hz0, hz1, hz2⟩ := info_parts info23
  have I := Lib.hid hi
  have Z0 := Lib.hid hz0
  have Z1 := Lib.hid hz1
  have Z2 := Lib.hid hz2
  clear hi hz0 hz1 hz2
  obtain ⟨B, hB⟩ : ∃ B, w.heap.size = B := ⟨_, rfl⟩
  have HB := Lib.hid hB
  have HA := Lib.hid hA
  clear hB hA
  cases hf : fewB A with
  | false =>
    have cf : ∀ W, Below B w W → Calls Try.prog 13 #[.slice a A.length cap] W fun e w' => e = .returned (.bool false) ∧ W = w' := fun W hb => by rw [← hf]; exact few_calls a cap A W (HA.out.1.belowB HB.out hb) HA.out.2.1 HA.out.2.2
    clear hf
    go_enter Try.func7, Try.ntmps7
    go_wp2_with (first | (go_at_call 12; refine (head5_calls _).mono ?_; rintro e wh ⟨rfl, hbh⟩; rw [HB.out] at hbh; have BH := Lib.hid hbh; clear hbh) | (go_at_call 13; refine (cf _ BH.out).mono ?_; rintro e w' ⟨rfl, rfl⟩))
    go_ret
    exact ⟨rfl, by rw [HB.out]; exact BH.out⟩
  | true =>
    have FO := Lib.hid (few_ok hf)
    have cf : ∀ W, Below B w W → Calls Try.prog 13 #[.slice a A.length cap] W fun e w' => e = .returned (.bool true) ∧ W = w' := fun W hb => by rw [← hf]; exact few_calls a cap A W (HA.out.1.belowB HB.out hb) HA.out.2.1 HA.out.2.2
    have hl60 : A.length ≤ 60 := (few_ok hf).1
    clear hf
    obtain ⟨wd, hwd4, hwd⟩ := width5 width
    have HWD := Lib.hid hwd
    obtain ⟨m, hm1, hm2⟩ := mask16 at_
    have HM := Lib.hid hm2
    obtain ⟨n, hn⟩ : ∃ n, max A.length 1 = n := ⟨_, rfl⟩
    have HNI : Hid (max (A.length : Int) 1 = (n : Int)) := Lib.hid (by omega)
    have hn1 : 1 ≤ n ∧ n ≤ 60 := by omega
    have HN := Lib.hid hn
    have HBr := fun (W : World) (hb : Below B w W) => (show B ≤ W.heap.size by have := hb.size; rw [HB.out] at this; exact this)
    clear hwd hn hm2
    go_enter Try.func7, Try.ntmps7
    go_wp2_with (first | (go_at_call 12; refine (head5_calls _).mono ?_; rintro e wh ⟨rfl, hbh⟩; rw [HB.out] at hbh; have BH := Lib.hid hbh; clear hbh) | (go_at_call 13; refine (cf _ BH.out).mono ?_; rintro e w' ⟨rfl, rfl⟩))
    rw [HWD.out]
    rw [HNI.out]
    have O0 : Hid ((wh.alloc (.cells #[] 23)).ownsRow B 23 1 (.slice (some ⟨wh.heap.size, 0, none⟩) 0 0) 0 (([] : List RV).map encV)) := Lib.hid (World.ownsRow_lit (base := B) (e := 23) (size := 1) wh #[] 0 (HBr _ BH.out) (by decide) rfl)
    have B0 : Hid (Below B w (wh.alloc (.cells #[] 23))) := Lib.hid (BH.out.alloc (HBr _ BH.out) _)
    generalize World.alloc _ _ = w1 at *
    generalize Value.slice (some ⟨wh.heap.size, 0, none⟩) 0 0 = v0 at *
    go_loopw [27, 7] (fun s v wr => ∃ (k : Nat) (T : List RV), k ≤ A.length ∧ s = .int .i64 k ∧ Hid (T.length = k) ∧ Hid (∀ x ∈ T, x ∈ A) ∧ Hid (wr.ownsRow B 23 1 v T.length (T.map encV)) ∧ Hid (Below B w wr)) (fun s _ _ => A.length - (intOf s).toNat)
    case atStart => exact ⟨0, [], Nat.zero_le _, rfl, Lib.hid rfl, Lib.hid (fun x hx => by cases hx), O0, B0⟩
    case round =>
      obtain ⟨k, T, hk, rfl, HT, HTA, HO, HBe⟩ := hrel
      have hBr := HBr _ HBe.out
      by_cases hlt : k < A.length
      · obtain ⟨j, hj⟩ : ∃ j, (k + m) % n = j := ⟨_, rfl⟩
        have hnA : n = A.length := by have := HN.out; omega
        have hjA : j < A.length := by rw [← hj, hnA]; exact Nat.mod_lt _ (by omega)
        have hjI : ((k : Int) + (m : Int)) % (n : Int) = (j : Int) := by rw [← hj, Int.natCast_emod, Int.natCast_add]
        obtain ⟨b, off, rfl, hb, hcell, hrow, _⟩ := (HA.out.1.belowB HB.out HBe.out).at hjA
        have MM : Hid (atV A j ∈ A) := Lib.hid (atV_mem hjA)
        obtain ⟨x, hx⟩ : ∃ x, atV A j = x := ⟨_, rfl⟩
        rw [hx] at hcell MM
        clear hrow hx hj hnA
        obtain ⟨xa, xz, xc⟩ := x
        simp only at hcell
        have hT60 : T.length ≤ 60 := by rw [HT.out]; omega
        have hm2 := HM.out
        have q1 : (j : Int) < (A.length : Int) := by omega
        have q2 : (0 : Int) ≤ (j : Int) := by omega
        have q3 : (0 : Int) < (n : Int) := by omega
        go_wp2_with (first | (at_builtin; refine wpList_append_own _ rfl _ _ 22 rfl B 23 i0 (.slice none 0 0) 1 24 Try.underlying22 I.out Z0.out Z1.out Z2.out rfl (by decide) _ _ _ rfl (HO.out.alloc _) ⟨wr.heap.size, 0, none⟩ 1 1 [.slice xa xz.length xc] rfl rfl ?c1 ?c2 ?c3 ?c4 ?c5 ?_))
        case c1 =>
          intro j u hj
          match j, hj with
          | 0, hj => simp at hj; subst hj; simp [Addr.add]
        case c2 => intro u hu; simp at hu; subst hu; rfl
        case c3 => unfold maxLen; omega
        case c4 => omega
        case c5 => simp; omega
        intro v' w2 hown' hgrow _
        have R := app_rv (x := (xa, xz, xc)) hBr HBe.out HO.out hown' hgrow
        have O1 := Lib.hid R.1
        have B1 := Lib.hid R.2
        clear hown' hgrow R hcell hm2 hjI
        go_wp2_with fail
        go_roundw
        case rel => exact ⟨k + 1, T ++ [(xa, xz, xc)], by omega, by go_num, Lib.hid (by simp [HT.out]), Lib.hid (fun y hy => by
          rcases List.mem_append.1 hy with h | h
          · exact HTA.out y h
          · rw [List.mem_singleton] at h; rw [h]; exact MM.out), O1, B1⟩
        case measure => simp [intOf]; omega
      · obtain rfl : k = A.length := by omega
        obtain ⟨wm, rfl⟩ : ∃ x, x = wr := ⟨wr, rfl⟩
        go_wp2_with fail
        refine (make_later wd a cap A wm (HA.out.1.belowB HB.out HBe.out) (by omega) (by omega) (fun x hx => by have := FO.out.2 x hx; omega)).mono ?_
        rintro e w3 ⟨p3, rfl, hs3, hb3⟩
        have S3 := Lib.hid hs3
        have hOlt := Lib.hid (fun k hk => (HO.out.lt k hk).2)
        have hs3z := hb3.size
        have B3 : Hid (Below B w w3) := Lib.hid (HBe.out.trans (hb3.mono hBr))
        have O3 : Hid (w3.ownsRow B 23 1 u7 T.length (T.map encV)) := Lib.hid (owns_keeps (N := fun _ => False) HO.out (Keeps.of_below hb3) (fun _ _ h => h))
        have hrl : (relOf wd (A.map (·.2.1))).length ≤ 60 := by have h1 := rel_len (wd : Int) (A.map (·.2.1)); simp at h1; omega
        have hB3 := HBr _ B3.out
        have hT60 : T.length ≤ 60 := by rw [HT.out]; omega
        clear hs3 hb3
        obtain ⟨C, hC⟩ : ∃ C, T ++ A = C := ⟨_, rfl⟩
        have HC := Lib.hid hC
        have hCl : C.length ≤ 120 := by rw [← hC]; simp; omega
        have FIN : ∀ (v : Value) (W : World), W.ownsRow B 23 1 v C.length (C.map encV) → Below B w W → ∃ a' c', v = .slice a' C.length c' ∧ RRow W a' C := fun v W hown hb =>
          rrow_of_owns hown (fun x hx => by
            have hx' : x ∈ A := by rw [← HC.out] at hx; rcases List.mem_append.1 hx with h | h; exact HTA.out x h; exact h
            exact ⟨(HA.out.1.2 x hx').1.belowB HB.out hb, (HA.out.1.2 x hx').2⟩)
        have RS : Hid (relOf wd (C.map (·.2.1)) = relOf wd (A.map (·.2.1))) := Lib.hid (by rw [← HC.out]; exact rel_same (wd := (wd : Int)) HTA.out)
        have CO : Hid (∀ x ∈ C, x.2.1.length ≤ 1000000) := Lib.hid (fun x hx => by
          have hx' : x ∈ A := by rw [← HC.out] at hx; rcases List.mem_append.1 hx with h | h; exact HTA.out x h; exact h
          have := FO.out.2 x hx'; omega)
        clear hC
        rcases a with _ | ad
        · skip
          obtain rfl : A = [] := by
            rcases HA.out.1.1 with h | ⟨b, off, h, _⟩
            · exact h
            · cases h
          obtain rfl : cap = 0 := hcap rfl
          have hown4 : w3.ownsRow B 23 1 u7 C.length (C.map encV) := by rw [← HC.out, List.append_nil]; exact O3.out
          obtain ⟨a4, c4, rfl, hr4⟩ := FIN u7 w3 hown4 B3.out
          have S4 : Hid (Seg w3 p3 wd (relOf wd (([] : List RV).map (·.2.1)))) := Lib.hid (S3.out w3 (Later.refl _ _))
          have R4 := Lib.hid hr4
          have B4 := B3
          have O4 := Lib.hid hown4
          clear hown4 hr4
          obtain ⟨w4, rfl⟩ : ∃ x, x = w3 := ⟨w3, rfl⟩
          go_wp2_with (first | (at_builtin; refine wpList_append_own_none rfl _ _ 22 rfl B 23 i0 1 Try.underlying22 I.out _ _ _ rfl O4.out rfl ?_))
          refine (make_calls wd a4 c4 C w4 R4.out (by omega) (by omega) CO.out).mono ?_
          rintro e w5 ⟨p5, rfl, hs5, hb5⟩
          rw [RS.out] at hs5
          have Sa := Lib.hid (S4.out.below hb5)
          have Sb := Lib.hid hs5
          have B5 : Hid (Below B w w5) := Lib.hid (B4.out.trans (hb5.mono (HBr _ B4.out)))
          clear hs5 hb5
          generalize relOf (wd : Int) (([] : List RV).map (·.2.1)) = rs at *
          have cs1 : ∀ W, Below B w W → Below w5.heap.size w5 W → Calls Try.prog 24 #[.pointer p3, .pointer p5] W (Quiet (.bool true) W) := fun W _ hb => by
            have := same_calls (Sa.out.below hb) (Sb.out.below hb) (by omega) (by omega) (by omega) (by omega)
            rw [decide_eq_true rfl] at this; exact this
          have cs2 : ∀ W, Below B w W → Below w5.heap.size w5 W → Calls Try.prog 24 #[.pointer p5, .pointer p3] W (Quiet (.bool true) W) := fun W _ hb => by
            have := same_calls (Sb.out.below hb) (Sa.out.below hb) (by omega) (by omega) (by omega) (by omega)
            rw [decide_eq_true rfl] at this; exact this
          go_wp2_with fail
          refine (cs1 w5 B5.out (Below.refl _ _)).mono ?_
          rintro e w6 ⟨rfl, q6, rfl⟩
          go_wp2_with fail
          refine (cs2 (w5.drewN q6) (below_drewN B5.out _) (below_drewN (Below.refl _ _) _)).mono ?_
          rintro e w7 ⟨rfl, q7, rfl⟩
          have l1 := segLen_calls (Sa.out.below (below_drewN (Below.refl _ _) (q6 + q7)))
          have l2 := segLen_calls (Sb.out.below (below_drewN (Below.refl _ _) (q6 + q7)))
          go_wp2_with fail
          refine l1.mono ?_
          rintro e w8 ⟨rfl, rfl⟩
          go_wp2_with fail
          refine l2.mono ?_
          rintro e w9 ⟨rfl, rfl⟩
          go_wp2_with fail
          go_ret
          exact ⟨rfl, by rw [HB.out]; exact below_drewN B5.out _⟩
        · go_wp2_with (first | (at_builtin; refine wpList_append_own _ rfl _ _ 22 rfl B 23 i0 (.slice none 0 0) 1 24 Try.underlying22 I.out Z0.out Z1.out Z2.out rfl (by decide) _ _ _ rfl O3.out ad A.length cap (A.map encV) rfl (by simp) ?d1 ?d2 ?d3 ?d4 ?d5 ?_))
          case d1 =>
            intro j u hj
            have hjA : j < A.length := by
              rcases Nat.lt_or_ge j A.length with h | h
              · exact h
              · rw [List.getElem?_eq_none (by simpa using h)] at hj; cases hj
            rw [map_at hjA] at hj
            cases hj
            rcases (HA.out.1.belowB HB.out B3.out).1 with h0 | ⟨b, off, hbo, _, hc⟩
            · rw [h0] at hjA; simp at hjA
            · cases hbo
              rw [show (⟨b, off, none⟩ : Addr).add j = ⟨b, off + j, none⟩ by simp only [Addr.add]; split <;> simp_all]
              exact hc j hjA
          case d2 => intro u hu; obtain ⟨x, _, rfl⟩ := List.mem_map.1 hu; rfl
          case d3 => unfold maxLen; omega
          case d4 => omega
          case d5 => exact hB3
          intro v4 w4 hown4 hgrow4 _
          have hb4 : Below B w w4 := B3.out.grown hgrow4 hB3 (fun k hk => (O3.out.lt k hk).1)
          obtain ⟨a4, c4, rfl, hr4⟩ := FIN v4 w4 (by rw [← HC.out, List.length_append, List.map_append]; exact hown4) hb4
          have S4 : Hid (Seg w4 p3 wd (relOf wd (A.map (·.2.1)))) := Lib.hid (S3.out w4 ⟨hgrow4.size, fun k h1 h2 => hgrow4.block k h2 (fun e => by have := hOlt.out k e.symm; omega)⟩)
          have R4 := Lib.hid hr4
          have B4 := Lib.hid hb4
          clear hown4 hgrow4 hr4 hb4
          go_wp2_with fail
          refine (make_calls wd a4 c4 C w4 R4.out (by omega) (by omega) CO.out).mono ?_
          rintro e w5 ⟨p5, rfl, hs5, hb5⟩
          rw [RS.out] at hs5
          have Sa := Lib.hid (S4.out.below hb5)
          have Sb := Lib.hid hs5
          have B5 : Hid (Below B w w5) := Lib.hid (B4.out.trans (hb5.mono (HBr _ B4.out)))
          clear hs5 hb5
          generalize relOf (wd : Int) (A.map (·.2.1)) = rs at *
          have cs1 : ∀ W, Below B w W → Below w5.heap.size w5 W → Calls Try.prog 24 #[.pointer p3, .pointer p5] W (Quiet (.bool true) W) := fun W _ hb => by
            have := same_calls (Sa.out.below hb) (Sb.out.below hb) (by omega) (by omega) (by omega) (by omega)
            rw [decide_eq_true rfl] at this; exact this
          have cs2 : ∀ W, Below B w W → Below w5.heap.size w5 W → Calls Try.prog 24 #[.pointer p5, .pointer p3] W (Quiet (.bool true) W) := fun W _ hb => by
            have := same_calls (Sb.out.below hb) (Sa.out.below hb) (by omega) (by omega) (by omega) (by omega)
            rw [decide_eq_true rfl] at this; exact this
          go_wp2_with fail
          refine (cs1 w5 B5.out (Below.refl _ _)).mono ?_
          rintro e w6 ⟨rfl, q6, rfl⟩
          go_wp2_with fail
          refine (cs2 (w5.drewN q6) (below_drewN B5.out _) (below_drewN (Below.refl _ _) _)).mono ?_
          rintro e w7 ⟨rfl, q7, rfl⟩
          have l1 := segLen_calls (Sa.out.below (below_drewN (Below.refl _ _) (q6 + q7)))
          have l2 := segLen_calls (Sb.out.below (below_drewN (Below.refl _ _) (q6 + q7)))
          go_wp2_with fail
          refine l1.mono ?_
          rintro e w8 ⟨rfl, rfl⟩
          go_wp2_with fail
          refine l2.mono ?_
          rintro e w9 ⟨rfl, rfl⟩
          go_wp2_with fail
          go_ret
          exact ⟨rfl, by rw [HB.out]; exact below_drewN B5.out _⟩
end Go.Proofs.Ytkcpdkhdjgfigaa
