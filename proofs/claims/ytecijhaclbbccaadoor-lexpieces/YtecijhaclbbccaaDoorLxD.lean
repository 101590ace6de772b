/- Contracts of the lexer: number. Written by lxt.py. -/
import Derived.Test.YtecijhaclbbccaaDoorLxC
namespace Go.Proofs.YtecijhaclbbccaaDoor
open Go.RowKit
set_option linter.unusedVariables false
set_option linter.unusedSimpArgs false

set_option maxRecDepth 100000 in
set_option maxHeartbeats 1000000 in
theorem number_calls (s : ByteArray) (p : Nat) (w : World) (hp : p ≤ s.size) (hs : s.size ≤ 1000000) :
    Calls Tryd.prog 33 #[.string s, .int .i64 p] w (NxRet w (numN ((bs s).drop p) p)) := by
  obtain ⟨G, hG⟩ : ∃ G, w.heap.size = G := ⟨_, rfl⟩
  have HG := Lib.hid hG
  have HX : Hid (zbox (w.alloc (.cells #[.int .i64 0, .string ⟨#[]⟩, .int .u64 0, .int .i64 0] 31)) G) := Lib.hid (by rw [← hG]; exact zbox_new w)
  have BX : Hid (Below G w (w.alloc (.cells #[.int .i64 0, .string ⟨#[]⟩, .int .u64 0, .int .i64 0] 31))) := Lib.hid ((Below.refl G w).alloc (by omega) _)
  go_enter Tryd.func33, Tryd.ntmps33
  go_wp2_with fail
  generalize World.alloc w _ = W at *
  go_loop [7, 8] (fun v i => ∃ (E n : Nat), p ≤ E ∧ E ≤ s.size ∧ n ≤ 9223372036854775808 ∧ v = .int .u64 n ∧ i = .int .i64 E ∧ Hid (numGo ((bs s).drop E) n (E - p) = numGo ((bs s).drop p) 0 0)) (fun _ i => s.size - (intOf i).toNat)
  case atStart => exact ⟨p, 0, Nat.le_refl _, hp, by omega, rfl, rfl, Lib.hid (by rw [Nat.sub_self])⟩
  case round =>
    obtain ⟨E, n, hE1, hE2, hn, rfl, rfl, HE⟩ := hrel
    by_cases hlt : E < s.size
    · have ST : Hid (numGo ((bs s).drop E) n (E - p) = if digB (s[E]).toNat = true then (if (9223372036854775808 - ((s[E]).toNat - 48)) / 10 < n then none else numGo ((bs s).drop (E + 1)) (n * 10 + ((s[E]).toNat - 48)) (E - p + 1)) else some (n, E - p)) := Lib.hid (by rw [bs_drop hlt]; rfl)
      have cd := isDigit_calls (s[E]).toNat W
      cases hd : digB (s[E]).toNat with
      | true =>
        rw [hd] at cd ST
        have hr : 48 ≤ (s[E]).toNat ∧ (s[E]).toNat ≤ 57 := by unfold digB at hd; simpa using hd
        clear hd
        obtain ⟨d, hd⟩ : ∃ d : Nat, (s[E]).toNat = d + 48 := ⟨(s[E]).toNat - 48, by omega⟩
        have hd9 : d ≤ 9 := by omega
        rw [show (s[E]).toNat - 48 = d by omega] at ST
        have hu : IntKind.u8.wrap (((s[E]).toNat : Int) - 48) = (d : Int) := by rw [hd]; simp [IntKind.wrap, IntKind.bits, IntKind.signed]; omega
        clear hd hr
        by_cases hq : ((9223372036854775808 : Int) - (d : Int)) / 10 < (n : Int)
        · have NO : Hid (numN ((bs s).drop p) p = .no 1 p) := Lib.hid (by
            unfold numN; rw [← HE.out, ST.out, if_pos rfl, if_pos (by omega)])
          have tq : decide (((9223372036854775808 : Int) - (d : Int)) / 10 < (n : Int)) = true := decide_eq_true hq
          clear hq
          go_wp2_with fail
          refine cd.mono ?_
          rintro e w' ⟨rfl, rfl⟩
          go_wp2_with fail
          refine (fail_is _ _ _ _).mono ?_
          rintro e w1 ⟨hb1, b1, txt1, rfl, hle1, hf1⟩
          obtain ⟨HZ1, HR1⟩ := box_no HG.out HX.out BX.out hb1 hle1 hf1
          have R1 := Lib.hid HR1
          have E1 := Lib.hid (heap_set4 (y0 := .int .i64 0) (y1 := .string ⟨#[]⟩) (y2 := .int .u64 0) (y3 := .int .i64 0) HZ1)
          obtain ⟨c0, c1, c2, c3, cf⟩ := cells4 HZ1
          clear hb1 hle1 hf1 HZ1 HR1
          go_wp2_with fail
          obtain ⟨d0, d1, d2, d3, _⟩ := cells4 E1.out
          refine bodyPost_ret (v := .tuple #[.agg #[.int .i64 0, .string ⟨#[]⟩, .int .u64 0, .int .i64 0], .int .i64 0, .iface 70 (.pointer (some ⟨b1, 0, none⟩))]) ?_ rfl (by rw [NO.out]; exact R1.out)
          simp [results, Tryd.results33, go_sem, d0, d1, d2, d3]
        · have NX : Hid (numGo ((bs s).drop (E + 1)) (n * 10 + d) (E + 1 - p) = numGo ((bs s).drop p) 0 0) := Lib.hid (by
            rw [← HE.out, ST.out, if_pos rfl, if_neg (by omega), show E + 1 - p = E - p + 1 by omega])
          have tq : decide (((9223372036854775808 : Int) - (d : Int)) / 10 < (n : Int)) = false := decide_eq_false hq
          have hn2 : n * 10 + d ≤ 9223372036854775808 := by omega
          go_wp2_with fail
          refine cd.mono ?_
          rintro e w' ⟨rfl, rfl⟩
          go_wp2_with fail
          go_round
          case rel => exact ⟨E + 1, n * 10 + d, by omega, by omega, hn2, by go_num, by go_num, NX⟩
          case measure => simp [intOf]; omega
      | false =>
        rw [hd] at cd ST
        have DF : Hid (numN ((bs s).drop p) p = .ok ⟨3, ⟨#[]⟩, n, p⟩ E) := Lib.hid (by
          unfold numN; rw [← HE.out, ST.out, if_neg Bool.false_ne_true]
          show Nx.ok _ (p + (E - p)) = _
          rw [show p + (E - p) = E by omega])
        clear hd
        go_wp2_with fail
        refine cd.mono ?_
        rintro e w' ⟨rfl, rfl⟩
        obtain ⟨c0, c1, c2, c3, cf⟩ := cells4 HX.out
        have R1 := Lib.hid (box_ok HG.out HX.out BX.out ⟨3, ⟨#[]⟩, (n : Int), (p : Int)⟩ E)
        have E1 := Lib.hid (heap_set4 (y0 := .int .i64 3) (y1 := .string ⟨#[]⟩) (y2 := .int .u64 (n : Int)) (y3 := .int .i64 (p : Int)) HX.out)
        go_wp2_with fail
        obtain ⟨d0, d1, d2, d3, _⟩ := cells4 E1.out
        refine bodyPost_ret (v := .tuple #[.agg #[.int .i64 3, .string ⟨#[]⟩, .int .u64 (n : Int), .int .i64 (p : Int)], .int .i64 E, .nilIface]) ?_ rfl (by rw [DF.out]; exact R1.out)
        simp [results, Tryd.results33, go_sem, d0, d1, d2, d3]
    · have DF : Hid (numN ((bs s).drop p) p = .ok ⟨3, ⟨#[]⟩, n, p⟩ E) := Lib.hid (by
        unfold numN; rw [← HE.out, bs_end hlt]
        show Nx.ok _ (p + (E - p)) = _
        rw [show p + (E - p) = E by omega])
      obtain ⟨c0, c1, c2, c3, cf⟩ := cells4 HX.out
      have R1 := Lib.hid (box_ok HG.out HX.out BX.out ⟨3, ⟨#[]⟩, (n : Int), (p : Int)⟩ E)
      have E1 := Lib.hid (heap_set4 (y0 := .int .i64 3) (y1 := .string ⟨#[]⟩) (y2 := .int .u64 (n : Int)) (y3 := .int .i64 (p : Int)) HX.out)
      go_wp2_with fail
      obtain ⟨d0, d1, d2, d3, _⟩ := cells4 E1.out
      refine bodyPost_ret (v := .tuple #[.agg #[.int .i64 3, .string ⟨#[]⟩, .int .u64 (n : Int), .int .i64 (p : Int)], .int .i64 E, .nilIface]) ?_ rfl (by rw [DF.out]; exact R1.out)
      simp [results, Tryd.results33, go_sem, d0, d1, d2, d3]
end Go.Proofs.YtecijhaclbbccaaDoor
