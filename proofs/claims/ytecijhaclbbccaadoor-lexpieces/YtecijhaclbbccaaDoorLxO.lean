/- Contracts of lex.Quote and of the statements' own quote. -/
import Derived.Test.YtecijhaclbbccaaDoorLxN
namespace Go.Proofs.YtecijhaclbbccaaDoor
open Go.RowKit
set_option linter.unusedVariables false
set_option linter.unusedSimpArgs false

def qT (s : ByteArray) : ByteArray := ⟨(quoteT (bs s)).toArray⟩
def StrRet (w : World) (t : ByteArray) (e : Ending) (w' : World) : Prop := e = .returned (.string t) ∧ Below w.heap.size w w'
theorem qB_len (b : UInt8) : (qB b).length ≤ 2 := by unfold qB; split; simp; split; simp; split <;> simp
theorem app_bytes (l m : Bytes) : (⟨l.toArray⟩ : ByteArray) ++ ⟨m.toArray⟩ = ⟨(l ++ m).toArray⟩ := by
  apply ByteArray.ext
  simp
theorem strCells_lit (m : Bytes) : Lib.strCells ⟨m.toArray⟩ = Lib.byteCells m := rfl
theorem byteCells_app (l m : Bytes) : Lib.byteCells l ++ Lib.byteCells m = Lib.byteCells (l ++ m) := by simp [Lib.byteCells]
theorem size_lit (m : Bytes) : (⟨m.toArray⟩ : ByteArray).size = m.length := by show m.toArray.size = _; simp
/-- The builder under way. -/
structure QW (w : World) (B : Nat) (acc : Bytes) (W : World) : Prop where
  bld : Lib.IsBuilderF 64 5 B B (Lib.byteCells acc) W
  bel : Below B w W
  sz : B ≤ W.heap.size
theorem QW.next {w : World} {B : Nat} {acc acc' : Bytes} {W W' : World} (h : QW w B acc W) (hb : Lib.IsBuilderF 64 5 B B (Lib.byteCells acc') W') (hbel : Below B W W') : QW w B acc' W' :=
  ⟨hb, h.bel.trans hbel, Nat.le_trans h.sz hbel.size⟩
theorem qw_new (w : World) {B : Nat} (hB : w.heap.size = B) : QW w B [] (w.alloc (.cells #[.pointer none, .slice none 0 0] 64)) :=
  ⟨.inl ⟨Nat.le_refl _, .slice none 0 0, by rw [← hB]; exact heap_alloc_new _ _, World.ownsRowF_nil _ _ _ _, by simp [Value.ownBlock]⟩, (Below.refl B w).alloc (by omega) _, by simp [hB]⟩
theorem QW.wb {w : World} {B : Nat} {acc : Bytes} {W : World} (h : QW w B acc W) (b : UInt8) (hl : acc.length ≤ 1000000) : Calls Tryd.prog 26 #[.pointer (some ⟨B, 0, none⟩), .int .u8 (b.toNat : Int)] W fun e w' => e = .returned .nilIface ∧ QW w B (acc ++ [b]) w' :=
  (Tryd.wb_k B B (Lib.byteCells acc) (b.toNat : Int) W h.bld (by rw [byteCells_len]; omega) h.sz).mono fun e w' ⟨he, hb, hbel, _⟩ => ⟨he, h.next (.inr (by rw [byteCells_push] at hb; exact hb)) hbel⟩
theorem QW.ws {w : World} {B : Nat} {acc : Bytes} {W : World} (h : QW w B acc W) (m : Bytes) (hl : acc.length ≤ 1000000) (hm : m.length ≤ 1000) : Calls Tryd.prog 27 #[.pointer (some ⟨B, 0, none⟩), .string ⟨m.toArray⟩] W fun e w' => e = .returned (.tuple #[.int .i64 (m.length : Int), .nilIface]) ∧ QW w B (acc ++ m) w' :=
  (Tryd.ws_k B B (Lib.byteCells acc) ⟨m.toArray⟩ W h.bld (by rw [byteCells_len, size_lit]; omega) h.sz).mono fun e w' ⟨he, hb, hbel, _⟩ => ⟨by rw [he, size_lit], h.next (.inr (by rw [strCells_lit, byteCells_app] at hb; exact hb)) hbel⟩
set_option maxRecDepth 100000 in
set_option maxHeartbeats 2000000 in
theorem quote_calls (s : ByteArray) (w : World) (hs : s.size ≤ 1000) : Calls Tryd.prog 16 #[.string s] w (StrRet w (qT s)) := by
  obtain ⟨B, hB⟩ : ∃ B, w.heap.size = B := ⟨_, rfl⟩
  have HB := Lib.hid hB
  have Q0 := Lib.hid (qw_new w hB)
  go_enter Tryd.func16, Tryd.ntmps16
  go_wp2_with fail
  generalize World.alloc w _ = W0 at *
  clear hB
  refine (Q0.out.wb 34 (by simp)).mono ?_
  rintro e w1 ⟨rfl, hq1⟩
  have Q1 := Lib.hid hq1
  clear hq1 Q0
  go_wp2_with fail
  go_loopw [8] (fun i wr => ∃ k : Nat, k ≤ s.size ∧ i = .int .i64 k ∧ Hid (QW w B (34 :: quoteM ((bs s).take k)) wr)) (fun i _ => s.size - (intOf i).toNat)
  case atStart => exact ⟨0, Nat.zero_le _, rfl, Q1⟩
  case round =>
    obtain ⟨k, hk, rfl, HQ⟩ := hrel
    obtain ⟨acc, hacc⟩ : ∃ acc, 34 :: quoteM ((bs s).take k) = acc := ⟨_, rfl⟩
    have hal : acc.length ≤ 3000 := by
      have h1 := quoteM_len ((bs s).take k)
      rw [List.length_take, bs_len] at h1
      rw [← hacc, List.length_cons]; omega
    have QR := HQ
    rw [hacc] at QR
    have HA := Lib.hid hacc.symm
    clear hacc HQ Q1
    by_cases hlt : k < s.size
    · by_cases h10 : (s[k]).toNat = 10
      · have t10 : (((s[k]).toNat : Int) == 10) = true := by simp [h10]
        have NX : Hid (acc ++ [92, 110] = 34 :: quoteM ((bs s).take (k + 1))) := Lib.hid (by rw [HA.out, quoteM_take hlt]; unfold qB; rw [if_pos h10]; rfl)
        clear h10
        go_wp2_with fail
        refine (QR.out.ws [92, 110] (by omega) (by simp)).mono ?_
        rintro e w2 ⟨rfl, hq9⟩
        rw [NX.out] at hq9
        have Q9 := Lib.hid hq9
        clear hq9
        go_wp2_with fail
        go_roundw
        case rel => exact ⟨k + 1, by omega, by go_num, Q9⟩
        case measure => simp [intOf]; omega
      have t10 : (((s[k]).toNat : Int) == 10) = false := beq_eq_false_iff_ne.2 (by omega)
      by_cases h34 : (s[k]).toNat = 34
      · have t34 : (((s[k]).toNat : Int) == 34) = true := by simp [h34]
        have hv : s[k] = 34 := by rw [u8_eq (n := 34) (by decide) h34]; rfl
        have NX : Hid (acc ++ [92, 34] = 34 :: quoteM ((bs s).take (k + 1))) := Lib.hid (by rw [HA.out, quoteM_take hlt]; unfold qB; rw [if_neg h10, if_pos h34]; rfl)
        have HV := Lib.hid hv
        clear h10 h34 hv
        go_wp2_with fail
        refine (QR.out.wb 92 (by omega)).mono ?_
        rintro e w2 ⟨rfl, hq2⟩
        have c2 := hq2.wb s[k] (by simp; omega)
        rw [List.append_assoc] at c2
        go_wp2_with fail
        refine c2.mono ?_
        rintro e w3 ⟨rfl, hq9⟩
        rw [show ([92] ++ [s[k]] : Bytes) = [92, 34] by rw [HV.out]; rfl] at hq9
        clear c2 hq2
        rw [NX.out] at hq9
        have Q9 := Lib.hid hq9
        clear hq9
        go_wp2_with fail
        go_roundw
        case rel => exact ⟨k + 1, by omega, by go_num, Q9⟩
        case measure => simp [intOf]; omega
      have t34 : (((s[k]).toNat : Int) == 34) = false := beq_eq_false_iff_ne.2 (by omega)
      by_cases h92 : (s[k]).toNat = 92
      · have t92 : (((s[k]).toNat : Int) == 92) = true := by simp [h92]
        have hv : s[k] = 92 := by rw [u8_eq (n := 92) (by decide) h92]; rfl
        have NX : Hid (acc ++ [92, 92] = 34 :: quoteM ((bs s).take (k + 1))) := Lib.hid (by rw [HA.out, quoteM_take hlt]; unfold qB; rw [if_neg h10, if_neg h34, if_pos h92]; rfl)
        have HV := Lib.hid hv
        clear h10 h34 h92 hv
        go_wp2_with fail
        refine (QR.out.wb 92 (by omega)).mono ?_
        rintro e w2 ⟨rfl, hq2⟩
        have c2 := hq2.wb s[k] (by simp; omega)
        rw [List.append_assoc] at c2
        go_wp2_with fail
        refine c2.mono ?_
        rintro e w3 ⟨rfl, hq9⟩
        rw [show ([92] ++ [s[k]] : Bytes) = [92, 92] by rw [HV.out]; rfl] at hq9
        clear c2 hq2
        rw [NX.out] at hq9
        have Q9 := Lib.hid hq9
        clear hq9
        go_wp2_with fail
        go_roundw
        case rel => exact ⟨k + 1, by omega, by go_num, Q9⟩
        case measure => simp [intOf]; omega
      have t92 : (((s[k]).toNat : Int) == 92) = false := beq_eq_false_iff_ne.2 (by omega)
      have NX : Hid (acc ++ [s[k]] = 34 :: quoteM ((bs s).take (k + 1))) := Lib.hid (by rw [HA.out, quoteM_take hlt]; unfold qB; rw [if_neg h10, if_neg h34, if_neg h92]; rfl)
      clear h10 h34 h92
      have c2 := QR.out.wb s[k] (by omega)
      go_wp2_with fail
      refine c2.mono ?_
      rintro e w3 ⟨rfl, hq9⟩
      clear c2
      rw [NX.out] at hq9
      have Q9 := Lib.hid hq9
      clear hq9
      go_wp2_with fail
      go_roundw
      case rel => exact ⟨k + 1, by omega, by go_num, Q9⟩
      case measure => simp [intOf]; omega
    · have FX : Hid (acc ++ [34] = quoteT (bs s)) := Lib.hid (by rw [HA.out, List.take_of_length_le (by rw [bs_len]; omega)]; rfl)
      go_wp2_with fail
      refine (QR.out.wb 34 (by omega)).mono ?_
      rintro e w2 ⟨rfl, hq2⟩
      rw [FX.out] at hq2
      have c3 := Tryd.Builder_String_any_k B B (quoteT (bs s)) w2 hq2.bld hq2.sz
      have Q2 := Lib.hid hq2
      clear hq2
      go_wp2_with fail
      refine c3.mono ?_
      rintro e w3 ⟨rfl, _, hbel3, _⟩
      have B3 : Hid (Below B w w3) := Lib.hid (Q2.out.bel.trans hbel3)
      clear c3 hbel3
      go_wp2_with fail
      go_ret
      exact ⟨rfl, by rw [HB.out]; exact B3.out⟩
set_option maxRecDepth 100000 in
set_option maxHeartbeats 2000000 in
theorem lawQuote_calls (s : ByteArray) (w : World) (hs : s.size ≤ 1000) : Calls Tryd.prog 17 #[.string s] w fun e w' => e = .returned (.string (qT s)) ∧ w = w' := by
  go_enter Tryd.func17, Tryd.ntmps17
  go_wp2_with fail
  go_loop [4, 3] (fun i v => ∃ (k : Nat) (out : ByteArray), k ≤ s.size ∧ i = .int .i64 k ∧ v = .string out ∧ Hid (out = ⟨(34 :: quoteM ((bs s).take k)).toArray⟩)) (fun i _ => s.size - (intOf i).toNat)
  case atStart => exact ⟨0, _, Nat.zero_le _, rfl, rfl, Lib.hid rfl⟩
  case round =>
    obtain ⟨k, out, hk, rfl, rfl, HO⟩ := hrel
    have hol : out.size ≤ 3000 := by
      have h1 := quoteM_len ((bs s).take k)
      rw [List.length_take, bs_len] at h1
      rw [HO.out, size_lit, List.length_cons]; omega
    by_cases hlt : k < s.size
    · by_cases h10 : (s[k]).toNat = 10
      · have t10 : (((s[k]).toNat : Int) == 10) = true := by simp [h10]
        have NX : Hid (out ++ ⟨#[92, 110]⟩ = ⟨(34 :: quoteM ((bs s).take (k + 1))).toArray⟩) := Lib.hid (by
          rw [HO.out, quoteM_take hlt, show (⟨#[92, 110]⟩ : ByteArray) = ⟨(qB s[k]).toArray⟩ by (unfold qB; rw [if_pos h10]), app_bytes]; rfl)
        clear h10
        go_wp2_with fail
        go_round
        case rel => exact ⟨k + 1, out ++ ⟨#[92, 110]⟩, by omega, by go_num, rfl, NX⟩
        case measure => simp [intOf]; omega
      have t10 : (((s[k]).toNat : Int) == 10) = false := beq_eq_false_iff_ne.2 (by omega)
      by_cases h34 : (s[k]).toNat = 34
      · have t34 : (((s[k]).toNat : Int) == 34) = true := by simp [h34]
        have NX : Hid (out ++ ⟨#[92, 34]⟩ = ⟨(34 :: quoteM ((bs s).take (k + 1))).toArray⟩) := Lib.hid (by
          rw [HO.out, quoteM_take hlt, show (⟨#[92, 34]⟩ : ByteArray) = ⟨(qB s[k]).toArray⟩ by (unfold qB; rw [if_neg h10, if_pos h34]), app_bytes]; rfl)
        clear h10 h34
        go_wp2_with fail
        go_round
        case rel => exact ⟨k + 1, out ++ ⟨#[92, 34]⟩, by omega, by go_num, rfl, NX⟩
        case measure => simp [intOf]; omega
      have t34 : (((s[k]).toNat : Int) == 34) = false := beq_eq_false_iff_ne.2 (by omega)
      by_cases h92 : (s[k]).toNat = 92
      · have t92 : (((s[k]).toNat : Int) == 92) = true := by simp [h92]
        have NX : Hid (out ++ ⟨#[92, 92]⟩ = ⟨(34 :: quoteM ((bs s).take (k + 1))).toArray⟩) := Lib.hid (by
          rw [HO.out, quoteM_take hlt, show (⟨#[92, 92]⟩ : ByteArray) = ⟨(qB s[k]).toArray⟩ by (unfold qB; rw [if_neg h10, if_neg h34, if_pos h92]), app_bytes]; rfl)
        clear h10 h34 h92
        go_wp2_with fail
        go_round
        case rel => exact ⟨k + 1, out ++ ⟨#[92, 92]⟩, by omega, by go_num, rfl, NX⟩
        case measure => simp [intOf]; omega
      have t92 : (((s[k]).toNat : Int) == 92) = false := beq_eq_false_iff_ne.2 (by omega)
      have NX : Hid (out ++ s.extract k (k + 1) = ⟨(34 :: quoteM ((bs s).take (k + 1))).toArray⟩) := Lib.hid (by
        rw [HO.out, quoteM_take hlt, extract_eq, bs_drop hlt, show k + 1 - k = 1 by omega, show qB s[k] = [s[k]] by (unfold qB; rw [if_neg h10, if_neg h34, if_neg h92]), app_bytes]; rfl)
      have hxs : (s.extract k (k + 1)).size ≤ 1 := by rw [ByteArray.size_extract]; omega
      clear h10 h34 h92
      go_wp2_with fail
      go_round
      case rel => exact ⟨k + 1, out ++ s.extract k (k + 1), by omega, by go_num, rfl, NX⟩
      case measure => simp [intOf]; omega
    · have FX : Hid (out ++ ⟨#[34]⟩ = qT s) := Lib.hid (by rw [HO.out, List.take_of_length_le (by rw [bs_len]; omega), show (⟨#[34]⟩ : ByteArray) = ⟨([34] : Bytes).toArray⟩ from rfl, app_bytes]; rfl)
      go_wp2_with fail
      go_ret
      exact ⟨by rw [← FX.out]; rfl, rfl⟩
end Go.Proofs.YtecijhaclbbccaaDoor
