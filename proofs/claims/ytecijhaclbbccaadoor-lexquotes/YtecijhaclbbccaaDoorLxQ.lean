/- LexQuotes, walked. -/
import Derived.Test.YtecijhaclbbccaaDoorLxO
import Derived.Test.YtecijhaclbbccaaDoorLxP
import Derived.Test.YtecijhaclbbccaaDoorLxL
namespace Go.Proofs.YtecijhaclbbccaaDoor
open Go.RowKit
set_option linter.unusedVariables false
set_option linter.unusedSimpArgs false

theorem neqBB (b : Bool) (w : World) : (binOp BinOp.neq 4 (.bool b) (.bool b)).run Tryd.prog w = .ok (.bool false) w := by cases b <;> kernel_rfl
attribute [local go_sem ↓] neqBB
theorem bs_qT (s : ByteArray) : bs (qT s) = quoteT (bs s) := by simp [bs, qT]
theorem bs_back (s : ByteArray) : (⟨(bs s).toArray⟩ : ByteArray) = s := by cases s; simp [bs]
theorem qT_size (s : ByteArray) : (qT s).size ≤ 2 * s.size + 2 := by
  have := quoteM_len (bs s)
  rw [bs_len] at this
  unfold qT quoteT
  rw [size_lit, List.length_cons, List.length_append]
  simp only [List.length_cons, List.length_nil]
  omega
theorem fine_take {s : ByteArray} {k : Nat} (h : k < s.size) : ((bs s).take (k + 1)).all fineB = (((bs s).take k).all fineB && fineB s[k]) := by
  have h2 : k < (bs s).length := by rw [bs_len]; exact h
  rw [List.take_succ_eq_append_getElem h2, List.all_append, List.all_cons, List.all_nil, Bool.and_true]
  rfl
set_option maxRecDepth 100000 in
set_option maxHeartbeats 2000000 in
theorem lexQuotes_walk (s : ByteArray) (w : World) (ht : SignTab w) (hg : ErrType w) : Calls Tryd.prog 6 #[.string s] w (TrueRet w) := by
  have ch := head12_calls w ht
  have HT := Lib.hid ht
  have HE := Lib.hid hg
  clear ht hg
  obtain ⟨B, hB⟩ : ∃ B, w.heap.size = B := ⟨_, rfl⟩
  have HB := Lib.hid hB
  clear hB
  by_cases h3 : 40 < s.size
  · have t3 : decide ((40 : Int) < (s.size : Int)) = true := decide_eq_true (by omega)
    go_enter Tryd.func6, Tryd.ntmps6
    go_wp2_with fail
    refine ch.mono ?_
    rintro e w1 ⟨rfl, hb1⟩
    have B1 := Lib.hid hb1
    clear hb1 ch
    go_wp2_with fail
    go_ret
    exact ⟨rfl, B1.out⟩
  have t3 : decide ((40 : Int) < (s.size : Int)) = false := decide_eq_false (by omega)
  have hn : s.size ≤ 40 := by omega
  go_enter Tryd.func6, Tryd.ntmps6
  go_wp2_with fail
  refine ch.mono ?_
  rintro e w1 ⟨rfl, hb1⟩
  rw [HB.out] at hb1
  have B1 := Lib.hid hb1
  have s1 : B ≤ w1.heap.size := by have := hb1.size; rw [HB.out] at this; exact this
  clear hb1 ch h3
  have cp := plain_calls s w1 (by omega)
  have cq := lawPlain_calls s w1 (by omega)
  have cr := quote_calls s w1 (by omega)
  have SZ := Lib.hid (qT_size s)
  have QB := Lib.hid (bs_qT s)
  have hq : (qT s).size ≤ 100 := by have := qT_size s; omega
  have CR : Hid (∀ W, Calls Tryd.prog 16 #[.string s] W (StrRet W (qT s))) := Lib.hid (fun W => quote_calls s W (by omega))
  have CL : Hid (∀ W, Calls Tryd.prog 17 #[.string s] W fun e w' => e = .returned (.string (qT s)) ∧ W = w') := Lib.hid (fun W => lawQuote_calls s W (by omega))
  generalize qT s = q at *
  go_wp2_with fail
  refine cp.mono ?_
  rintro e w' ⟨⟨b1, rfl, i1⟩, rfl⟩
  have I1 := Lib.hid i1
  clear i1 cp
  go_wp2_with fail
  refine cq.mono ?_
  rintro e w' ⟨⟨b2, rfl, i2⟩, rfl⟩
  obtain rfl : b1 = b2 := by
    have h9 := I1.out.trans i2.symm
    cases b1 <;> cases b2 <;> simp_all
  clear i2 I1 cq
  go_wp2_with fail
  refine cr.mono ?_
  rintro e w2 ⟨rfl, hb2⟩
  have B2 : Hid (Below B w w2) := Lib.hid (B1.out.trans (hb2.mono s1))
  have s2 : B ≤ w2.heap.size := by have := hb2.size; omega
  clear hb2 cr B1
  go_wp2_with fail
  refine (CL.out w2).mono ?_
  rintro e w' ⟨rfl, rfl⟩
  go_wp2_with fail
  go_loop [3, 4] (fun v i => ∃ (k : Nat) (f : Bool), k ≤ s.size ∧ i = .int .i64 k ∧ v = .bool f ∧ Hid (f = ((bs s).take k).all fineB)) (fun _ i => s.size - (intOf i).toNat)
  case atStart => exact ⟨0, true, Nat.zero_le _, rfl, rfl, Lib.hid rfl⟩
  case round =>
    obtain ⟨k, f, hk, rfl, rfl, HF⟩ := hrel
    by_cases hlt : k < s.size
    · have FT := Lib.hid (fine_take hlt)
      cases f with
      | false =>
        have NX : Hid (false = ((bs s).take (k + 1)).all fineB) := Lib.hid (by rw [FT.out, ← HF.out]; rfl)
        go_wp2_with fail
        go_round
        case rel => exact ⟨k + 1, false, by omega, by go_num, rfl, NX⟩
        case measure => simp [intOf]; omega
      | true =>
        by_cases h32 : 32 ≤ (s[k]).toNat
        · have NX : Hid (true = ((bs s).take (k + 1)).all fineB) := Lib.hid (by rw [FT.out, ← HF.out]; simp [fineB, h32])
          have ta : decide (32 ≤ (s[k]).toNat) = true := decide_eq_true h32
          have tb : decide ((32 : Int) ≤ ((s[k]).toNat : Int)) = true := decide_eq_true (by omega)
          go_wp2_with fail
          go_round
          case rel => exact ⟨k + 1, true, by omega, by go_num, rfl, NX⟩
          case measure => simp [intOf]; omega
        have ta : decide (32 ≤ (s[k]).toNat) = false := decide_eq_false h32
        have tb : decide ((32 : Int) ≤ ((s[k]).toNat : Int)) = false := decide_eq_false (by omega)
        by_cases h10 : (s[k]).toNat = 10
        · have NX : Hid (true = ((bs s).take (k + 1)).all fineB) := Lib.hid (by rw [FT.out, ← HF.out]; simp [fineB, h10])
          have tc : (((s[k]).toNat : Int) == 10) = true := by simp [h10]
          clear h10 h32
          go_wp2_with fail
          go_round
          case rel => exact ⟨k + 1, true, by omega, by go_num, rfl, NX⟩
          case measure => simp [intOf]; omega
        have NX : Hid (false = ((bs s).take (k + 1)).all fineB) := Lib.hid (by rw [FT.out, ← HF.out]; simp [fineB, h10]; omega)
        have tc : (((s[k]).toNat : Int) == 10) = false := beq_eq_false_iff_ne.2 (by omega)
        clear h10 h32
        go_wp2_with fail
        go_round
        case rel => exact ⟨k + 1, false, by omega, by go_num, rfl, NX⟩
        case measure => simp [intOf]; omega
    · have FA : Hid (f = (bs s).all fineB) := Lib.hid (by rw [HF.out, List.take_of_length_le (by rw [bs_len]; omega)])
      clear HF
      go_wp2_with fail
      refine (CR.out w2).mono ?_
      rintro e w3 ⟨rfl, hb3⟩
      have B3 : Hid (Below B w w3) := Lib.hid (B2.out.trans (hb3.mono s2))
      have s3 : B ≤ w3.heap.size := by have := hb3.size; omega
      have HT3 := Lib.hid (HT.out.below (by rw [HB.out]; exact B3.out))
      have HE3 : Hid (ErrType w3) := Lib.hid (HE.out.ext (by show Below _ _ _; rw [HB.out]; exact B3.out))
      clear hb3
      have ca := all_calls q w3 (by omega) HT3.out
      rw [QB.out] at ca
      cases f with
      | true =>
        rw [all_fine FA.out.symm (by rw [bs_len]; exact hn), bs_back] at ca
        go_wp2_with fail
        refine ca.mono ?_
        rintro e w4 ⟨hb4, a1, c1, rfl, hr1⟩
        rcases hr1 with h | ⟨g, rfl, hg, hc⟩
        · cases h
        have h0 := hc 0 (by simp)
        have f0 : w4.cell? ⟨g, 0, none⟩ = some (.int .i64 4) := h0.1
        have f1 : w4.cell? ⟨g, 1, none⟩ = some (.string s) := h0.2.1
        have f2 : w4.cell? ⟨g, 2, none⟩ = some (.int .u64 0) := h0.2.2.1
        have f3 : w4.cell? ⟨g, 3, none⟩ = some (.int .i64 0) := h0.2.2.2
        have B4 : Hid (Below B w w4) := Lib.hid (B3.out.trans (hb4.mono s3))
        clear ca hb4 hc h0
        simp only [List.length_cons, List.length_nil]
        go_wp2_with fail
        go_ret
        exact ⟨rfl, by rw [HB.out]; exact B4.out⟩
      | false =>
        obtain ⟨x, hx⟩ := all_bad FA.out.symm
        rw [hx] at ca
        go_wp2_with fail
        refine ca.mono ?_
        rintro e w4 ⟨hb4, b9, txt9, rfl, hle9, hf9⟩
        have B4 : Hid (Below B w w4) := Lib.hid (B3.out.trans (hb4.mono s3))
        have s4 : B ≤ w4.heap.size := by have := hb4.size; omega
        have HE4 : Hid (ErrType w4) := Lib.hid (HE3.out.ext hb4)
        have cO := of_fault b9 1 x txt9 .nilIface w4 hf9 (.inl rfl) HE4.out
        clear ca hb4 hle9 hf9 hx
        go_wp2_with fail
        refine cO.mono ?_
        rintro e w5 ⟨rfl, hx5⟩
        have B5 : Hid (Below B w w5) := Lib.hid (B4.out.trans (Below.mono hx5 s4))
        clear hx5
        go_wp2_with fail
        go_ret
        exact ⟨rfl, by rw [HB.out]; exact B5.out⟩
end Go.Proofs.YtecijhaclbbccaaDoor
