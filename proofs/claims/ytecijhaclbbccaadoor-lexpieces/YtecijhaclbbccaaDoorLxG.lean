/- Contracts of the lexer: quoted2. Written by lxt.py. -/
import Derived.Test.YtecijhaclbbccaaDoorLxF
namespace Go.Proofs.YtecijhaclbbccaaDoor
open Go.RowKit
set_option linter.unusedVariables false
set_option linter.unusedSimpArgs false

/-- The string under way: its bytes in the builder, the result's box beside it. -/
structure QS (w : World) (G : Nat) (acc : Bytes) (W : World) : Prop where
  bld : Lib.IsBuilderF 64 5 (G + 1) (G + 1) (Lib.byteCells acc) W
  box : zbox W G
  bel : Below G w W
  sz : G + 1 ≤ W.heap.size
theorem QS.next {w : World} {G : Nat} {acc acc' : Bytes} {W W' : World} (h : QS w G acc W) (hb : Lib.IsBuilderF 64 5 (G + 1) (G + 1) (Lib.byteCells acc') W') (hbel : Below (G + 1) W W') : QS w G acc' W' :=
  ⟨hb, (hbel.block G (by omega)).trans h.box, h.bel.trans (hbel.mono (by omega)), Nat.le_trans h.sz hbel.size⟩
theorem qs_new (w : World) {G : Nat} (hG : w.heap.size = G) : QS w G [] ((w.alloc (.cells #[.int .i64 0, .string ⟨#[]⟩, .int .u64 0, .int .i64 0] 31)).alloc (.cells #[.pointer none, .slice none 0 0] 64)) := by
  have s1 : (w.alloc (.cells #[.int .i64 0, .string ⟨#[]⟩, .int .u64 0, .int .i64 0] 31)).heap.size = G + 1 := by simp [hG]
  refine ⟨.inl ⟨Nat.le_refl _, .slice none 0 0, by rw [← s1]; exact heap_alloc_new _ _, World.ownsRowF_nil _ _ _ _, by simp [Value.ownBlock]⟩, ?_, ((Below.refl G w).alloc (by omega) _).alloc (by rw [s1]; omega) _, by simp [hG]⟩
  have h1 : zbox (w.alloc (.cells #[.int .i64 0, .string ⟨#[]⟩, .int .u64 0, .int .i64 0] 31)) G := by rw [← hG]; exact zbox_new w
  exact h1.below ((Below.refl _ _).alloc (Nat.le_refl _) _)
set_option maxRecDepth 100000 in
set_option maxHeartbeats 2000000 in
theorem quoted_calls (s : ByteArray) (p : Nat) (w : World) (hp : p < s.size) (hs : s.size ≤ 1000000) :
    Calls Tryd.prog 34 #[.string s, .int .i64 p] w (NxRet w (strGo p ((bs s).drop (p + 1)) (p + 1) [])) := by
  obtain ⟨G, hG⟩ : ∃ G, w.heap.size = G := ⟨_, rfl⟩
  have HG := Lib.hid hG
  have Q0 := Lib.hid (qs_new w hG)
  go_enter Tryd.func34, Tryd.ntmps34
  go_wp2_with fail
  generalize World.alloc (World.alloc w _) _ = W0 at *
  clear hG
  go_loopw [8] (fun i wr => ∃ (k : Nat) (acc : Bytes), p + 1 ≤ k ∧ k ≤ s.size ∧ acc.length ≤ k ∧ i = .int .i64 k ∧ Hid (QS w G acc wr) ∧ Hid (strGo p ((bs s).drop k) k acc = strGo p ((bs s).drop (p + 1)) (p + 1) [])) (fun i _ => s.size - (intOf i).toNat)
  case atStart => exact ⟨p + 1, [], Nat.le_refl _, by omega, by simp, by go_num, Q0, Lib.hid rfl⟩
  case round =>
    obtain ⟨k, acc, hk1, hk2, hal, rfl, HQ, HE⟩ := hrel
    clear Q0
    have HX := Lib.hid HQ.out.box
    have BX := Lib.hid HQ.out.bel
    have BL := byteCells_len acc
    by_cases hlt : k < s.size
    · have ST : Hid (strGo p ((bs s).drop (p + 1)) (p + 1) [] = strGo p (s[k] :: (bs s).drop (k + 1)) k acc) := Lib.hid (by rw [← HE.out, bs_drop hlt])
      by_cases hq : (s[k]).toNat = 34
      · have tq : (((s[k]).toNat : Int) == 34) = true := by simp [hq]
        have cl := Tryd.Builder_Len_f (G + 1) (G + 1) (Lib.byteCells acc) wr HQ.out.bld
        rw [BL] at cl
        have DF : Hid (strGo p ((bs s).drop (p + 1)) (p + 1) [] = if 40 < acc.length then .no 3 p else .ok ⟨4, ⟨acc.toArray⟩, 0, p⟩ (k + 1)) := Lib.hid (by rw [ST.out, str_quote hq])
        clear hq
        by_cases h40 : 40 < acc.length
        · have t4 : decide ((40 : Int) < (acc.length : Int)) = true := decide_eq_true (by omega)
          rw [if_pos h40] at DF
          clear h40
          go_wp2_with fail
          refine cl.mono ?_
          rintro e w' ⟨rfl, rfl⟩
          clear cl
          go_wp2_with fail
          refine (fail_is _ _ _ _).mono ?_
          rintro e w1 ⟨hb1, b1, txt1, rfl, hle1, hf1⟩
          obtain ⟨HZ1, HR1⟩ := box_no HG.out HX.out BX.out hb1 hle1 hf1
          have R1 := Lib.hid HR1
          have E1 := Lib.hid (heap_set4 (y0 := .int .i64 0) (y1 := .string ⟨#[]⟩) (y2 := .int .u64 0) (y3 := .int .i64 0) HZ1)
          obtain ⟨c0, c1, c2, c3, cf⟩ := cells4 HZ1
          clear hb1 hle1 hf1 HZ1 HR1
          go_wp2_with fail
          obtain ⟨d0, d1, d2, d3, _⟩ := cells4 E1.out
          refine bodyPost_ret (v := .tuple #[.agg #[.int .i64 0, .string ⟨#[]⟩, .int .u64 0, .int .i64 0], .int .i64 0, .iface 70 (.pointer (some ⟨b1, 0, none⟩))]) ?_ rfl (by rw [DF.out]; exact R1.out)
          simp [results, Tryd.results34, go_sem, d0, d1, d2, d3]
        · have t4 : decide ((40 : Int) < (acc.length : Int)) = false := decide_eq_false (by omega)
          rw [if_neg h40] at DF
          clear h40
          have cs := Tryd.Builder_String_any_k (G + 1) (G + 1) acc wr HQ.out.bld HQ.out.sz
          go_wp2_with fail
          refine cl.mono ?_
          rintro e w' ⟨rfl, rfl⟩
          clear cl
          go_wp2_with fail
          refine cs.mono ?_
          rintro e W2 ⟨rfl, hb2, hbel2, _⟩
          have HQ2 := HQ.out.next hb2 hbel2
          have HX := Lib.hid HQ2.box
          have BX := Lib.hid HQ2.bel
          clear cs hb2 hbel2 HQ2
          generalize (⟨acc.toArray⟩ : ByteArray) = tx at *
          obtain ⟨E, hE⟩ : ∃ E, k + 1 = E := ⟨_, rfl⟩
          rw [hE] at DF
          have hE' : (k : Int) + 1 = (E : Int) := by omega
          clear hE
          obtain ⟨c0, c1, c2, c3, cf⟩ := cells4 HX.out
          have R1 := Lib.hid (box_ok HG.out HX.out BX.out ⟨4, tx, 0, (p : Int)⟩ E)
          have E1 := Lib.hid (heap_set4 (y0 := .int .i64 4) (y1 := .string tx) (y2 := .int .u64 0) (y3 := .int .i64 (p : Int)) HX.out)
          go_wp2_with fail
          obtain ⟨d0, d1, d2, d3, _⟩ := cells4 E1.out
          refine bodyPost_ret (v := .tuple #[.agg #[.int .i64 4, .string tx, .int .u64 0, .int .i64 (p : Int)], .int .i64 E, .nilIface]) ?_ rfl (by rw [DF.out]; exact R1.out)
          simp [results, Tryd.results34, go_sem, d0, d1, d2, d3]
      have tq : (((s[k]).toNat : Int) == 34) = false := beq_eq_false_iff_ne.2 (by omega)
      by_cases hl : (s[k]).toNat < 32
      · have tl : decide (((s[k]).toNat : Int) < 32) = true := decide_eq_true (by omega)
        have DF : Hid (strGo p ((bs s).drop (p + 1)) (p + 1) [] = .no 1 k) := Lib.hid (by rw [ST.out, str_low hl])
        clear hq hl
        go_wp2_with fail
        refine (fail_is _ _ _ _).mono ?_
        rintro e w1 ⟨hb1, b1, txt1, rfl, hle1, hf1⟩
        obtain ⟨HZ1, HR1⟩ := box_no HG.out HX.out BX.out hb1 hle1 hf1
        have R1 := Lib.hid HR1
        have E1 := Lib.hid (heap_set4 (y0 := .int .i64 0) (y1 := .string ⟨#[]⟩) (y2 := .int .u64 0) (y3 := .int .i64 0) HZ1)
        obtain ⟨c0, c1, c2, c3, cf⟩ := cells4 HZ1
        clear hb1 hle1 hf1 HZ1 HR1
        go_wp2_with fail
        obtain ⟨d0, d1, d2, d3, _⟩ := cells4 E1.out
        refine bodyPost_ret (v := .tuple #[.agg #[.int .i64 0, .string ⟨#[]⟩, .int .u64 0, .int .i64 0], .int .i64 0, .iface 70 (.pointer (some ⟨b1, 0, none⟩))]) ?_ rfl (by rw [DF.out]; exact R1.out)
        simp [results, Tryd.results34, go_sem, d0, d1, d2, d3]
      have tl : decide (((s[k]).toNat : Int) < 32) = false := decide_eq_false (by omega)
      by_cases hb : (s[k]).toNat = 92
      · have tb : (((s[k]).toNat : Int) == 92) = true := by simp [hb]
        by_cases hl2 : k + 1 < s.size
        · have ce := escaped_calls s (k + 1) wr hl2 hs
          rw [bs_drop hl2] at ST
          cases hv : escM (s[k + 1]).toNat with
          | none =>
            rw [hv] at ce
            have DF : Hid (strGo p ((bs s).drop (p + 1)) (p + 1) [] = .no 1 k) := Lib.hid (by rw [ST.out, str_bad hb hv])
            clear hq hl hb hv
            go_wp2_with fail
            refine ce.mono ?_
            rintro e w' ⟨rfl, rfl⟩
            clear ce
            go_wp2_with fail
            refine (fail_is _ _ _ _).mono ?_
            rintro e w1 ⟨hb1, b1, txt1, rfl, hle1, hf1⟩
            obtain ⟨HZ1, HR1⟩ := box_no HG.out HX.out BX.out hb1 hle1 hf1
            have R1 := Lib.hid HR1
            have E1 := Lib.hid (heap_set4 (y0 := .int .i64 0) (y1 := .string ⟨#[]⟩) (y2 := .int .u64 0) (y3 := .int .i64 0) HZ1)
            obtain ⟨c0, c1, c2, c3, cf⟩ := cells4 HZ1
            clear hb1 hle1 hf1 HZ1 HR1
            go_wp2_with fail
            obtain ⟨d0, d1, d2, d3, _⟩ := cells4 E1.out
            refine bodyPost_ret (v := .tuple #[.agg #[.int .i64 0, .string ⟨#[]⟩, .int .u64 0, .int .i64 0], .int .i64 0, .iface 70 (.pointer (some ⟨b1, 0, none⟩))]) ?_ rfl (by rw [DF.out]; exact R1.out)
            simp [results, Tryd.results34, go_sem, d0, d1, d2, d3]
          | some v =>
            rw [hv] at ce
            have NX : Hid (strGo p ((bs s).drop (k + 1 + 1)) (k + 1 + 1) (acc ++ [UInt8.ofNat v]) = strGo p ((bs s).drop (p + 1)) (p + 1) []) := Lib.hid (by rw [ST.out, str_esc hb hv])
            have hv2 := ofNat_lt (esc_lt hv)
            have cb := Tryd.wb_k (G + 1) (G + 1) (Lib.byteCells acc) (v : Int) wr HQ.out.bld (by rw [BL]; omega) HQ.out.sz
            have BP := byteCells_push acc (UInt8.ofNat v)
            rw [hv2] at BP
            have HBP := Lib.hid BP
            clear hq hl hb hv hv2 BP
            go_wp2_with fail
            refine ce.mono ?_
            rintro e w' ⟨rfl, rfl⟩
            clear ce
            go_wp2_with fail
            refine cb.mono ?_
            rintro e W2 ⟨rfl, hb2, hbel2, _⟩
            rw [HBP.out] at hb2
            have HQ2 := Lib.hid (HQ.out.next (.inr hb2) hbel2)
            clear cb hb2 hbel2
            go_wp2_with fail
            go_roundw
            case rel => exact ⟨k + 1 + 1, acc ++ [UInt8.ofNat v], by omega, by omega, by simp; omega, by go_num, HQ2, NX⟩
            case measure => simp [intOf]; omega
        · have ce := escaped_end s wr hs
          rw [bs_end hl2] at ST
          have DF : Hid (strGo p ((bs s).drop (p + 1)) (p + 1) [] = .no 1 k) := Lib.hid (by rw [ST.out, str_last hb])
          have hk' : ((s.size : Nat) : Int) = (k : Int) + 1 := by omega
          rw [hk'] at ce
          clear hq hl hb hl2 hk'
          go_wp2_with fail
          refine ce.mono ?_
          rintro e w' ⟨rfl, rfl⟩
          clear ce
          go_wp2_with fail
          refine (fail_is _ _ _ _).mono ?_
          rintro e w1 ⟨hb1, b1, txt1, rfl, hle1, hf1⟩
          obtain ⟨HZ1, HR1⟩ := box_no HG.out HX.out BX.out hb1 hle1 hf1
          have R1 := Lib.hid HR1
          have E1 := Lib.hid (heap_set4 (y0 := .int .i64 0) (y1 := .string ⟨#[]⟩) (y2 := .int .u64 0) (y3 := .int .i64 0) HZ1)
          obtain ⟨c0, c1, c2, c3, cf⟩ := cells4 HZ1
          clear hb1 hle1 hf1 HZ1 HR1
          go_wp2_with fail
          obtain ⟨d0, d1, d2, d3, _⟩ := cells4 E1.out
          refine bodyPost_ret (v := .tuple #[.agg #[.int .i64 0, .string ⟨#[]⟩, .int .u64 0, .int .i64 0], .int .i64 0, .iface 70 (.pointer (some ⟨b1, 0, none⟩))]) ?_ rfl (by rw [DF.out]; exact R1.out)
          simp [results, Tryd.results34, go_sem, d0, d1, d2, d3]
      have tb : (((s[k]).toNat : Int) == 92) = false := beq_eq_false_iff_ne.2 (by omega)
      have NX : Hid (strGo p ((bs s).drop (k + 1)) (k + 1) (acc ++ [s[k]]) = strGo p ((bs s).drop (p + 1)) (p + 1) []) := Lib.hid (by rw [ST.out, str_plain hq hl hb])
      have cb := Tryd.wb_k (G + 1) (G + 1) (Lib.byteCells acc) ((s[k]).toNat : Int) wr HQ.out.bld (by rw [BL]; omega) HQ.out.sz
      have HBP := Lib.hid (byteCells_push acc s[k])
      clear hq hl hb
      go_wp2_with fail
      refine cb.mono ?_
      rintro e W2 ⟨rfl, hb2, hbel2, _⟩
      rw [HBP.out] at hb2
      have HQ2 := Lib.hid (HQ.out.next (.inr hb2) hbel2)
      clear cb hb2 hbel2
      go_wp2_with fail
      go_roundw
      case rel => exact ⟨k + 1, acc ++ [s[k]], by omega, by omega, by simp; omega, by go_num, HQ2, NX⟩
      case measure => simp [intOf]; omega
    · have DF : Hid (strGo p ((bs s).drop (p + 1)) (p + 1) [] = .no 1 s.size) := Lib.hid (by rw [← HE.out, bs_end hlt, str_end, show k = s.size by omega])
      go_wp2_with fail
      refine (fail_is _ _ _ _).mono ?_
      rintro e w1 ⟨hb1, b1, txt1, rfl, hle1, hf1⟩
      obtain ⟨HZ1, HR1⟩ := box_no HG.out HX.out BX.out hb1 hle1 hf1
      have R1 := Lib.hid HR1
      have E1 := Lib.hid (heap_set4 (y0 := .int .i64 0) (y1 := .string ⟨#[]⟩) (y2 := .int .u64 0) (y3 := .int .i64 0) HZ1)
      obtain ⟨c0, c1, c2, c3, cf⟩ := cells4 HZ1
      clear hb1 hle1 hf1 HZ1 HR1
      go_wp2_with fail
      obtain ⟨d0, d1, d2, d3, _⟩ := cells4 E1.out
      refine bodyPost_ret (v := .tuple #[.agg #[.int .i64 0, .string ⟨#[]⟩, .int .u64 0, .int .i64 0], .int .i64 0, .iface 70 (.pointer (some ⟨b1, 0, none⟩))]) ?_ rfl (by rw [DF.out]; exact R1.out)
      simp [results, Tryd.results34, go_sem, d0, d1, d2, d3]
end Go.Proofs.YtecijhaclbbccaaDoor
