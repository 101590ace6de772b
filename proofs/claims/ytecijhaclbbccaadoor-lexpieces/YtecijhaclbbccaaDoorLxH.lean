/- Contracts of the lexer: next. Written by lxt.py. -/
import Derived.Test.YtecijhaclbbccaaDoorLxD
import Derived.Test.YtecijhaclbbccaaDoorLxE
import Derived.Test.YtecijhaclbbccaaDoorLxG
namespace Go.Proofs.YtecijhaclbbccaaDoor
open Go.RowKit
set_option linter.unusedVariables false
set_option linter.unusedSimpArgs false

theorem nextM_cons {b : UInt8} {r : Bytes} {p : Nat} : nextM (b :: r) p = if lowB b.toNat = true then wordN 1 (b :: r) p else if upB b.toNat = true then wordN 2 (b :: r) p else if digB b.toNat = true then numN (b :: r) p else if b.toNat = 34 then strGo p r (p + 1) [] else signGo (b :: r) p signs := rfl
set_option maxRecDepth 100000 in
set_option maxHeartbeats 2000000 in
theorem next_calls (s : ByteArray) (p : Nat) (w : World) (hp : p < s.size) (hs : s.size ≤ 1000000) (ht : SignTab w) :
    Calls Tryd.prog 21 #[.string s, .int .i64 p] w (NxRet w (nextM ((bs s).drop p) p)) := by
  obtain ⟨G, hG⟩ : ∃ G, w.heap.size = G := ⟨_, rfl⟩
  have HG := Lib.hid hG
  have HX : Hid (zbox (w.alloc (.cells #[.int .i64 0, .string ⟨#[]⟩, .int .u64 0, .int .i64 0] 31)) G) := Lib.hid (by rw [← hG]; exact zbox_new w)
  have BX : Hid (Below G w (w.alloc (.cells #[.int .i64 0, .string ⟨#[]⟩, .int .u64 0, .int .i64 0] 31))) := Lib.hid ((Below.refl G w).alloc (by omega) _)
  have SG : Hid (G ≤ (w.alloc (.cells #[.int .i64 0, .string ⟨#[]⟩, .int .u64 0, .int .i64 0] 31)).heap.size) := Lib.hid (by simp [hG])
  have HT := Lib.hid (ht.below ((Below.refl _ _).alloc (Nat.le_refl _) (.cells #[.int .i64 0, .string ⟨#[]⟩, .int .u64 0, .int .i64 0] 31)))
  have NC : Hid (nextM ((bs s).drop p) p = if lowB (s[p]).toNat = true then wordN 1 ((bs s).drop p) p else if upB (s[p]).toNat = true then wordN 2 ((bs s).drop p) p else if digB (s[p]).toNat = true then numN ((bs s).drop p) p else if (s[p]).toNat = 34 then strGo p ((bs s).drop (p + 1)) (p + 1) [] else signGo ((bs s).drop p) p signs) := Lib.hid (by
    have h0 := nextM_cons (b := s[p]) (r := (bs s).drop (p + 1)) (p := p)
    rw [← bs_drop hp] at h0
    exact h0)
  clear ht
  have i1 := fun W => isLower_calls (s[p]).toNat W
  have i2 := fun W => isUpper_calls (s[p]).toNat W
  have i3 := fun W => isDigit_calls (s[p]).toNat W
  cases h1 : lowB (s[p]).toNat with
  | true =>
    rw [h1] at i1 NC
    rw [if_pos rfl] at NC
    clear h1 i2 i3
    go_enter Tryd.func21, Tryd.ntmps21
    go_wp2_with fail
    generalize World.alloc w _ = W at *
    refine (i1 W).mono ?_
    rintro e w' ⟨rfl, rfl⟩
    go_wp2_with fail
    refine (word_calls s p 1 W (by omega) hs).mono ?_
    intro e w1 hret
    obtain ⟨hb1, hm1⟩ := hret
    cases hN : wordN 1 ((bs s).drop p) p with
    | ok t k =>
      rw [hN] at hm1
      have hm2 : e = .returned (.tuple #[.agg #[.int .i64 t.kind, .string t.text, .int .u64 t.num, .int .i64 t.at'], .int .i64 (k : Int), .nilIface]) := hm1
      subst hm2
      have HX1 : zbox w1 G := HX.out.below hb1
      have BX1 : Below G w w1 := BX.out.trans (hb1.mono SG.out)
      obtain ⟨c0, c1, c2, c3, cf⟩ := cells4 HX1
      have R1 := Lib.hid (box_ok HG.out HX1 BX1 t k)
      have E1 := Lib.hid (heap_set4 (y0 := .int .i64 t.kind) (y1 := .string t.text) (y2 := .int .u64 t.num) (y3 := .int .i64 t.at') HX1)
      have DF : Hid (nextM ((bs s).drop p) p = .ok t k) := Lib.hid (by rw [NC.out]; exact hN)
      clear hb1 hm1 hN HX1 BX1
      go_wp2_with fail
      obtain ⟨d0, d1, d2, d3, _⟩ := cells4 E1.out
      refine bodyPost_ret (v := .tuple #[.agg #[.int .i64 t.kind, .string t.text, .int .u64 t.num, .int .i64 t.at'], .int .i64 (k : Int), .nilIface]) ?_ rfl (by rw [DF.out]; exact R1.out)
      simp [results, Tryd.results21, go_sem, d0, d1, d2, d3]
    | no tag q =>
      rw [hN] at hm1
      obtain ⟨b1, txt1, he1, hle1, hf1⟩ := hm1
      have hm2 : e = .returned (.tuple #[.agg #[.int .i64 0, .string ⟨#[]⟩, .int .u64 0, .int .i64 0], .int .i64 0, .iface 70 (.pointer (some ⟨b1, 0, none⟩))]) := he1
      subst hm2
      obtain ⟨HZ1, HR1⟩ := box_no HG.out HX.out BX.out hb1 hle1 hf1
      have R1 := Lib.hid HR1
      have E1 := Lib.hid (heap_set4 (y0 := .int .i64 0) (y1 := .string ⟨#[]⟩) (y2 := .int .u64 0) (y3 := .int .i64 0) HZ1)
      obtain ⟨c0, c1, c2, c3, cf⟩ := cells4 HZ1
      have DF : Hid (nextM ((bs s).drop p) p = .no tag q) := Lib.hid (by rw [NC.out]; exact hN)
      clear hb1 hle1 hf1 HZ1 HR1 he1 hN
      go_wp2_with fail
      obtain ⟨d0, d1, d2, d3, _⟩ := cells4 E1.out
      refine bodyPost_ret (v := .tuple #[.agg #[.int .i64 0, .string ⟨#[]⟩, .int .u64 0, .int .i64 0], .int .i64 0, .iface 70 (.pointer (some ⟨b1, 0, none⟩))]) ?_ rfl (by rw [DF.out]; exact R1.out)
      simp [results, Tryd.results21, go_sem, d0, d1, d2, d3]
  | false =>
    rw [h1] at i1 NC
    rw [if_neg Bool.false_ne_true] at NC
    cases h2 : upB (s[p]).toNat with
    | true =>
      rw [h2] at i2 NC
      rw [if_pos rfl] at NC
      clear h1 h2 i3
      go_enter Tryd.func21, Tryd.ntmps21
      go_wp2_with fail
      generalize World.alloc w _ = W at *
      refine (i1 W).mono ?_
      rintro e w' ⟨rfl, rfl⟩
      go_wp2_with fail
      refine (i2 W).mono ?_
      rintro e w' ⟨rfl, rfl⟩
      go_wp2_with fail
      refine (word_calls s p 2 W (by omega) hs).mono ?_
      intro e w1 hret
      obtain ⟨hb1, hm1⟩ := hret
      cases hN : wordN 2 ((bs s).drop p) p with
      | ok t k =>
        rw [hN] at hm1
        have hm2 : e = .returned (.tuple #[.agg #[.int .i64 t.kind, .string t.text, .int .u64 t.num, .int .i64 t.at'], .int .i64 (k : Int), .nilIface]) := hm1
        subst hm2
        have HX1 : zbox w1 G := HX.out.below hb1
        have BX1 : Below G w w1 := BX.out.trans (hb1.mono SG.out)
        obtain ⟨c0, c1, c2, c3, cf⟩ := cells4 HX1
        have R1 := Lib.hid (box_ok HG.out HX1 BX1 t k)
        have E1 := Lib.hid (heap_set4 (y0 := .int .i64 t.kind) (y1 := .string t.text) (y2 := .int .u64 t.num) (y3 := .int .i64 t.at') HX1)
        have DF : Hid (nextM ((bs s).drop p) p = .ok t k) := Lib.hid (by rw [NC.out]; exact hN)
        clear hb1 hm1 hN HX1 BX1
        go_wp2_with fail
        obtain ⟨d0, d1, d2, d3, _⟩ := cells4 E1.out
        refine bodyPost_ret (v := .tuple #[.agg #[.int .i64 t.kind, .string t.text, .int .u64 t.num, .int .i64 t.at'], .int .i64 (k : Int), .nilIface]) ?_ rfl (by rw [DF.out]; exact R1.out)
        simp [results, Tryd.results21, go_sem, d0, d1, d2, d3]
      | no tag q =>
        rw [hN] at hm1
        obtain ⟨b1, txt1, he1, hle1, hf1⟩ := hm1
        have hm2 : e = .returned (.tuple #[.agg #[.int .i64 0, .string ⟨#[]⟩, .int .u64 0, .int .i64 0], .int .i64 0, .iface 70 (.pointer (some ⟨b1, 0, none⟩))]) := he1
        subst hm2
        obtain ⟨HZ1, HR1⟩ := box_no HG.out HX.out BX.out hb1 hle1 hf1
        have R1 := Lib.hid HR1
        have E1 := Lib.hid (heap_set4 (y0 := .int .i64 0) (y1 := .string ⟨#[]⟩) (y2 := .int .u64 0) (y3 := .int .i64 0) HZ1)
        obtain ⟨c0, c1, c2, c3, cf⟩ := cells4 HZ1
        have DF : Hid (nextM ((bs s).drop p) p = .no tag q) := Lib.hid (by rw [NC.out]; exact hN)
        clear hb1 hle1 hf1 HZ1 HR1 he1 hN
        go_wp2_with fail
        obtain ⟨d0, d1, d2, d3, _⟩ := cells4 E1.out
        refine bodyPost_ret (v := .tuple #[.agg #[.int .i64 0, .string ⟨#[]⟩, .int .u64 0, .int .i64 0], .int .i64 0, .iface 70 (.pointer (some ⟨b1, 0, none⟩))]) ?_ rfl (by rw [DF.out]; exact R1.out)
        simp [results, Tryd.results21, go_sem, d0, d1, d2, d3]
    | false =>
      rw [h2] at i2 NC
      rw [if_neg Bool.false_ne_true] at NC
      cases h3 : digB (s[p]).toNat with
      | true =>
        rw [h3] at i3 NC
        rw [if_pos rfl] at NC
        clear h1 h2 h3
        go_enter Tryd.func21, Tryd.ntmps21
        go_wp2_with fail
        generalize World.alloc w _ = W at *
        refine (i1 W).mono ?_
        rintro e w' ⟨rfl, rfl⟩
        go_wp2_with fail
        refine (i2 W).mono ?_
        rintro e w' ⟨rfl, rfl⟩
        go_wp2_with fail
        refine (i3 W).mono ?_
        rintro e w' ⟨rfl, rfl⟩
        go_wp2_with fail
        refine (number_calls s p W (by omega) hs).mono ?_
        intro e w1 hret
        obtain ⟨hb1, hm1⟩ := hret
        cases hN : numN ((bs s).drop p) p with
        | ok t k =>
          rw [hN] at hm1
          have hm2 : e = .returned (.tuple #[.agg #[.int .i64 t.kind, .string t.text, .int .u64 t.num, .int .i64 t.at'], .int .i64 (k : Int), .nilIface]) := hm1
          subst hm2
          have HX1 : zbox w1 G := HX.out.below hb1
          have BX1 : Below G w w1 := BX.out.trans (hb1.mono SG.out)
          obtain ⟨c0, c1, c2, c3, cf⟩ := cells4 HX1
          have R1 := Lib.hid (box_ok HG.out HX1 BX1 t k)
          have E1 := Lib.hid (heap_set4 (y0 := .int .i64 t.kind) (y1 := .string t.text) (y2 := .int .u64 t.num) (y3 := .int .i64 t.at') HX1)
          have DF : Hid (nextM ((bs s).drop p) p = .ok t k) := Lib.hid (by rw [NC.out]; exact hN)
          clear hb1 hm1 hN HX1 BX1
          go_wp2_with fail
          obtain ⟨d0, d1, d2, d3, _⟩ := cells4 E1.out
          refine bodyPost_ret (v := .tuple #[.agg #[.int .i64 t.kind, .string t.text, .int .u64 t.num, .int .i64 t.at'], .int .i64 (k : Int), .nilIface]) ?_ rfl (by rw [DF.out]; exact R1.out)
          simp [results, Tryd.results21, go_sem, d0, d1, d2, d3]
        | no tag q =>
          rw [hN] at hm1
          obtain ⟨b1, txt1, he1, hle1, hf1⟩ := hm1
          have hm2 : e = .returned (.tuple #[.agg #[.int .i64 0, .string ⟨#[]⟩, .int .u64 0, .int .i64 0], .int .i64 0, .iface 70 (.pointer (some ⟨b1, 0, none⟩))]) := he1
          subst hm2
          obtain ⟨HZ1, HR1⟩ := box_no HG.out HX.out BX.out hb1 hle1 hf1
          have R1 := Lib.hid HR1
          have E1 := Lib.hid (heap_set4 (y0 := .int .i64 0) (y1 := .string ⟨#[]⟩) (y2 := .int .u64 0) (y3 := .int .i64 0) HZ1)
          obtain ⟨c0, c1, c2, c3, cf⟩ := cells4 HZ1
          have DF : Hid (nextM ((bs s).drop p) p = .no tag q) := Lib.hid (by rw [NC.out]; exact hN)
          clear hb1 hle1 hf1 HZ1 HR1 he1 hN
          go_wp2_with fail
          obtain ⟨d0, d1, d2, d3, _⟩ := cells4 E1.out
          refine bodyPost_ret (v := .tuple #[.agg #[.int .i64 0, .string ⟨#[]⟩, .int .u64 0, .int .i64 0], .int .i64 0, .iface 70 (.pointer (some ⟨b1, 0, none⟩))]) ?_ rfl (by rw [DF.out]; exact R1.out)
          simp [results, Tryd.results21, go_sem, d0, d1, d2, d3]
      | false =>
        rw [h3] at i3 NC
        rw [if_neg Bool.false_ne_true] at NC
        clear h1 h2 h3
        by_cases h4 : (s[p]).toNat = 34
        · have t4 : (((s[p]).toNat : Int) == 34) = true := by simp [h4]
          rw [if_pos h4] at NC
          clear h4
          go_enter Tryd.func21, Tryd.ntmps21
          go_wp2_with fail
          generalize World.alloc w _ = W at *
          refine (i1 W).mono ?_
          rintro e w' ⟨rfl, rfl⟩
          go_wp2_with fail
          refine (i2 W).mono ?_
          rintro e w' ⟨rfl, rfl⟩
          go_wp2_with fail
          refine (i3 W).mono ?_
          rintro e w' ⟨rfl, rfl⟩
          go_wp2_with fail
          refine (quoted_calls s p W hp hs).mono ?_
          intro e w1 hret
          obtain ⟨hb1, hm1⟩ := hret
          cases hN : strGo p ((bs s).drop (p + 1)) (p + 1) [] with
          | ok t k =>
            rw [hN] at hm1
            have hm2 : e = .returned (.tuple #[.agg #[.int .i64 t.kind, .string t.text, .int .u64 t.num, .int .i64 t.at'], .int .i64 (k : Int), .nilIface]) := hm1
            subst hm2
            have HX1 : zbox w1 G := HX.out.below hb1
            have BX1 : Below G w w1 := BX.out.trans (hb1.mono SG.out)
            obtain ⟨c0, c1, c2, c3, cf⟩ := cells4 HX1
            have R1 := Lib.hid (box_ok HG.out HX1 BX1 t k)
            have E1 := Lib.hid (heap_set4 (y0 := .int .i64 t.kind) (y1 := .string t.text) (y2 := .int .u64 t.num) (y3 := .int .i64 t.at') HX1)
            have DF : Hid (nextM ((bs s).drop p) p = .ok t k) := Lib.hid (by rw [NC.out]; exact hN)
            clear hb1 hm1 hN HX1 BX1
            go_wp2_with fail
            obtain ⟨d0, d1, d2, d3, _⟩ := cells4 E1.out
            refine bodyPost_ret (v := .tuple #[.agg #[.int .i64 t.kind, .string t.text, .int .u64 t.num, .int .i64 t.at'], .int .i64 (k : Int), .nilIface]) ?_ rfl (by rw [DF.out]; exact R1.out)
            simp [results, Tryd.results21, go_sem, d0, d1, d2, d3]
          | no tag q =>
            rw [hN] at hm1
            obtain ⟨b1, txt1, he1, hle1, hf1⟩ := hm1
            have hm2 : e = .returned (.tuple #[.agg #[.int .i64 0, .string ⟨#[]⟩, .int .u64 0, .int .i64 0], .int .i64 0, .iface 70 (.pointer (some ⟨b1, 0, none⟩))]) := he1
            subst hm2
            obtain ⟨HZ1, HR1⟩ := box_no HG.out HX.out BX.out hb1 hle1 hf1
            have R1 := Lib.hid HR1
            have E1 := Lib.hid (heap_set4 (y0 := .int .i64 0) (y1 := .string ⟨#[]⟩) (y2 := .int .u64 0) (y3 := .int .i64 0) HZ1)
            obtain ⟨c0, c1, c2, c3, cf⟩ := cells4 HZ1
            have DF : Hid (nextM ((bs s).drop p) p = .no tag q) := Lib.hid (by rw [NC.out]; exact hN)
            clear hb1 hle1 hf1 HZ1 HR1 he1 hN
            go_wp2_with fail
            obtain ⟨d0, d1, d2, d3, _⟩ := cells4 E1.out
            refine bodyPost_ret (v := .tuple #[.agg #[.int .i64 0, .string ⟨#[]⟩, .int .u64 0, .int .i64 0], .int .i64 0, .iface 70 (.pointer (some ⟨b1, 0, none⟩))]) ?_ rfl (by rw [DF.out]; exact R1.out)
            simp [results, Tryd.results21, go_sem, d0, d1, d2, d3]
        · have t4 : (((s[p]).toNat : Int) == 34) = false := beq_eq_false_iff_ne.2 (by omega)
          rw [if_neg h4] at NC
          clear h4
          go_enter Tryd.func21, Tryd.ntmps21
          go_wp2_with fail
          generalize World.alloc w _ = W at *
          refine (i1 W).mono ?_
          rintro e w' ⟨rfl, rfl⟩
          go_wp2_with fail
          refine (i2 W).mono ?_
          rintro e w' ⟨rfl, rfl⟩
          go_wp2_with fail
          refine (i3 W).mono ?_
          rintro e w' ⟨rfl, rfl⟩
          go_wp2_with fail
          refine (sign_calls s p W (by omega) hs HT.out).mono ?_
          intro e w1 hret
          obtain ⟨hb1, hm1⟩ := hret
          cases hN : signGo ((bs s).drop p) p signs with
          | ok t k =>
            rw [hN] at hm1
            have hm2 : e = .returned (.tuple #[.agg #[.int .i64 t.kind, .string t.text, .int .u64 t.num, .int .i64 t.at'], .int .i64 (k : Int), .nilIface]) := hm1
            subst hm2
            have HX1 : zbox w1 G := HX.out.below hb1
            have BX1 : Below G w w1 := BX.out.trans (hb1.mono SG.out)
            obtain ⟨c0, c1, c2, c3, cf⟩ := cells4 HX1
            have R1 := Lib.hid (box_ok HG.out HX1 BX1 t k)
            have E1 := Lib.hid (heap_set4 (y0 := .int .i64 t.kind) (y1 := .string t.text) (y2 := .int .u64 t.num) (y3 := .int .i64 t.at') HX1)
            have DF : Hid (nextM ((bs s).drop p) p = .ok t k) := Lib.hid (by rw [NC.out]; exact hN)
            clear hb1 hm1 hN HX1 BX1
            go_wp2_with fail
            obtain ⟨d0, d1, d2, d3, _⟩ := cells4 E1.out
            refine bodyPost_ret (v := .tuple #[.agg #[.int .i64 t.kind, .string t.text, .int .u64 t.num, .int .i64 t.at'], .int .i64 (k : Int), .nilIface]) ?_ rfl (by rw [DF.out]; exact R1.out)
            simp [results, Tryd.results21, go_sem, d0, d1, d2, d3]
          | no tag q =>
            rw [hN] at hm1
            obtain ⟨b1, txt1, he1, hle1, hf1⟩ := hm1
            have hm2 : e = .returned (.tuple #[.agg #[.int .i64 0, .string ⟨#[]⟩, .int .u64 0, .int .i64 0], .int .i64 0, .iface 70 (.pointer (some ⟨b1, 0, none⟩))]) := he1
            subst hm2
            obtain ⟨HZ1, HR1⟩ := box_no HG.out HX.out BX.out hb1 hle1 hf1
            have R1 := Lib.hid HR1
            have E1 := Lib.hid (heap_set4 (y0 := .int .i64 0) (y1 := .string ⟨#[]⟩) (y2 := .int .u64 0) (y3 := .int .i64 0) HZ1)
            obtain ⟨c0, c1, c2, c3, cf⟩ := cells4 HZ1
            have DF : Hid (nextM ((bs s).drop p) p = .no tag q) := Lib.hid (by rw [NC.out]; exact hN)
            clear hb1 hle1 hf1 HZ1 HR1 he1 hN
            go_wp2_with fail
            obtain ⟨d0, d1, d2, d3, _⟩ := cells4 E1.out
            refine bodyPost_ret (v := .tuple #[.agg #[.int .i64 0, .string ⟨#[]⟩, .int .u64 0, .int .i64 0], .int .i64 0, .iface 70 (.pointer (some ⟨b1, 0, none⟩))]) ?_ rfl (by rw [DF.out]; exact R1.out)
            simp [results, Tryd.results21, go_sem, d0, d1, d2, d3]
end Go.Proofs.YtecijhaclbbccaaDoor
