/- Words, quotes and plain names: the lexer's bytes, lex.Plain, lex.Quote (ported from the lexer's texts). -/
import Derived.Test.YtaglbeokecbihaaDoorRows
import Derived.WalkKit
import Derived.WalkSpells
import Derived.WalkLawsBesides
import Derived.Lib.Hide
import Derived.BigQuiet
import Derived.BigRegion
import Derived.Deep.QuietTactic
import Derived.Deep.RegionHeld3
import Derived.StillTailTactics
import Derived.Deep.AppendLies
import Derived.Deep.DrawnRows
import Derived.Maps.AppendAt
import Derived.Test.YtaglbeokecbihaaDoorShelf
import Derived.IntWalk
namespace Go.Proofs.YtaglbeokecbihaaDoor
open Go.RowKit
set_option linter.unusedVariables false
set_option linter.unusedSimpArgs false

abbrev Bytes := List UInt8
def lowB (b : Nat) : Bool := decide (97 ≤ b) && decide (b ≤ 122)
def upB (b : Nat) : Bool := decide (65 ≤ b) && decide (b ≤ 90)
def digB (b : Nat) : Bool := decide (48 ≤ b) && decide (b ≤ 57)
def wordB (b : Nat) : Bool := lowB b || upB b || digB b || decide (b = 95)
def wordM (r : Bytes) : Nat := (r.takeWhile fun b => wordB b.toNat).length
theorem ret_b {x y : Bool} (h : x = y) : Ending.returned (.bool x) = .returned (.bool y) := by rw [h]
theorem ret_int {k : IntKind} {a b : Int} (h : a = b) : Ending.returned (.int k a) = .returned (.int k b) := by rw [h]
/-- The bytes of a text. -/
def bs (s : ByteArray) : Bytes := s.data.toList
theorem bs_len (s : ByteArray) : (bs s).length = s.size := by unfold bs; rw [Array.length_toList]; rfl
theorem bs_drop {s : ByteArray} {k : Nat} (h : k < s.size) : (bs s).drop k = s[k] :: (bs s).drop (k + 1) := by
  unfold bs
  rw [List.drop_eq_getElem_cons (by have := bs_len s; unfold bs at this; omega)]
  rfl
theorem bs_end {s : ByteArray} {k : Nat} (h : ¬ k < s.size) : (bs s).drop k = [] := List.drop_eq_nil_of_le (by rw [bs_len]; omega)
theorem isLower_calls (b : Nat) (w : World) : Calls Tryd.prog 52 #[.int .u8 b] w fun e w' => e = .returned (.bool (lowB b)) ∧ w = w' := by
  by_cases h1 : 97 ≤ b
  · have t1 : decide ((97 : Int) ≤ (b : Int)) = true := decide_eq_true (by omega)
    have R : Hid (lowB b = decide ((b : Int) ≤ 122)) := Lib.hid (by unfold lowB; rw [decide_eq_true h1, Bool.true_and]; exact decide_eq_decide.2 (by omega))
    clear h1
    go_enter Tryd.func52, Tryd.ntmps52
    go_wp2_with fail
    go_ret
    exact ⟨ret_b R.out.symm, rfl⟩
  · have t1 : decide ((97 : Int) ≤ (b : Int)) = false := decide_eq_false (by omega)
    have R : Hid (lowB b = false) := Lib.hid (by unfold lowB; rw [decide_eq_false h1, Bool.false_and])
    clear h1
    go_enter Tryd.func52, Tryd.ntmps52
    go_wp2_with fail
    go_ret
    exact ⟨ret_b R.out.symm, rfl⟩
theorem isUpper_calls (b : Nat) (w : World) : Calls Tryd.prog 68 #[.int .u8 b] w fun e w' => e = .returned (.bool (upB b)) ∧ w = w' := by
  by_cases h1 : 65 ≤ b
  · have t1 : decide ((65 : Int) ≤ (b : Int)) = true := decide_eq_true (by omega)
    have R : Hid (upB b = decide ((b : Int) ≤ 90)) := Lib.hid (by unfold upB; rw [decide_eq_true h1, Bool.true_and]; exact decide_eq_decide.2 (by omega))
    clear h1
    go_enter Tryd.func68, Tryd.ntmps68
    go_wp2_with fail
    go_ret
    exact ⟨ret_b R.out.symm, rfl⟩
  · have t1 : decide ((65 : Int) ≤ (b : Int)) = false := decide_eq_false (by omega)
    have R : Hid (upB b = false) := Lib.hid (by unfold upB; rw [decide_eq_false h1, Bool.false_and])
    clear h1
    go_enter Tryd.func68, Tryd.ntmps68
    go_wp2_with fail
    go_ret
    exact ⟨ret_b R.out.symm, rfl⟩
theorem isDigit_calls (b : Nat) (w : World) : Calls Tryd.prog 69 #[.int .u8 b] w fun e w' => e = .returned (.bool (digB b)) ∧ w = w' := by
  by_cases h1 : 48 ≤ b
  · have t1 : decide ((48 : Int) ≤ (b : Int)) = true := decide_eq_true (by omega)
    have R : Hid (digB b = decide ((b : Int) ≤ 57)) := Lib.hid (by unfold digB; rw [decide_eq_true h1, Bool.true_and]; exact decide_eq_decide.2 (by omega))
    clear h1
    go_enter Tryd.func69, Tryd.ntmps69
    go_wp2_with fail
    go_ret
    exact ⟨ret_b R.out.symm, rfl⟩
  · have t1 : decide ((48 : Int) ≤ (b : Int)) = false := decide_eq_false (by omega)
    have R : Hid (digB b = false) := Lib.hid (by unfold digB; rw [decide_eq_false h1, Bool.false_and])
    clear h1
    go_enter Tryd.func69, Tryd.ntmps69
    go_wp2_with fail
    go_ret
    exact ⟨ret_b R.out.symm, rfl⟩
theorem inWord_calls (b : Nat) (w : World) : Calls Tryd.prog 61 #[.int .u8 b] w fun e w' => e = .returned (.bool (wordB b)) ∧ w = w' := by
  have c1 := isLower_calls b w
  have c2 := isUpper_calls b w
  have c3 := isDigit_calls b w
  have W : Hid (wordB b = (lowB b || upB b || digB b || decide ((b : Int) = 95))) := Lib.hid (by unfold wordB; congr 1; exact decide_eq_decide.2 (by omega))
  cases h1 : lowB b with
  | true =>
    rw [h1] at c1 W
    clear h1 c2 c3
    go_enter Tryd.func61, Tryd.ntmps61
    go_wp2_with fail
    refine c1.mono ?_
    rintro e w' ⟨rfl, rfl⟩
    go_wp2_with fail
    go_ret
    exact ⟨ret_b (by rw [W.out]; simp), rfl⟩
  | false =>
    rw [h1] at c1 W
    cases h2 : upB b with
    | true =>
      rw [h2] at c2 W
      clear h1 h2 c3
      go_enter Tryd.func61, Tryd.ntmps61
      go_wp2_with fail
      refine c1.mono ?_
      rintro e w' ⟨rfl, rfl⟩
      go_wp2_with fail
      refine c2.mono ?_
      rintro e w' ⟨rfl, rfl⟩
      go_wp2_with fail
      go_ret
      exact ⟨ret_b (by rw [W.out]; simp), rfl⟩
    | false =>
      rw [h2] at c2 W
      cases h3 : digB b with
      | true =>
        rw [h3] at c3 W
        clear h1 h2 h3
        go_enter Tryd.func61, Tryd.ntmps61
        go_wp2_with fail
        refine c1.mono ?_
        rintro e w' ⟨rfl, rfl⟩
        go_wp2_with fail
        refine c2.mono ?_
        rintro e w' ⟨rfl, rfl⟩
        go_wp2_with fail
        refine c3.mono ?_
        rintro e w' ⟨rfl, rfl⟩
        go_wp2_with fail
        go_ret
        exact ⟨ret_b (by rw [W.out]; simp), rfl⟩
      | false =>
        rw [h3] at c3 W
        clear h1 h2 h3
        by_cases h4 : (b : Int) = 95
        · have t4 : ((b : Int) == 95) = true := by simp [h4]
          have R : Hid (wordB b = true) := Lib.hid (by rw [W.out, decide_eq_true h4]; rfl)
          clear h4
          go_enter Tryd.func61, Tryd.ntmps61
          go_wp2_with fail
          refine c1.mono ?_
          rintro e w' ⟨rfl, rfl⟩
          go_wp2_with fail
          refine c2.mono ?_
          rintro e w' ⟨rfl, rfl⟩
          go_wp2_with fail
          refine c3.mono ?_
          rintro e w' ⟨rfl, rfl⟩
          go_wp2_with fail
          go_ret
          exact ⟨ret_b R.out.symm, rfl⟩
        · have t4 : ((b : Int) == 95) = false := beq_eq_false_iff_ne.2 h4
          have R : Hid (wordB b = false) := Lib.hid (by rw [W.out, decide_eq_false h4]; rfl)
          clear h4
          go_enter Tryd.func61, Tryd.ntmps61
          go_wp2_with fail
          refine c1.mono ?_
          rintro e w' ⟨rfl, rfl⟩
          go_wp2_with fail
          refine c2.mono ?_
          rintro e w' ⟨rfl, rfl⟩
          go_wp2_with fail
          refine c3.mono ?_
          rintro e w' ⟨rfl, rfl⟩
          go_wp2_with fail
          go_ret
          exact ⟨ret_b R.out.symm, rfl⟩
theorem wordM_cons {b : UInt8} {r : Bytes} : wordM (b :: r) = if wordB b.toNat = true then wordM r + 1 else 0 := by
  unfold wordM
  by_cases h : wordB b.toNat = true
  · rw [List.takeWhile_cons_of_pos (by simpa using h), if_pos h]; simp
  · rw [List.takeWhile_cons_of_neg (by simpa using h), if_neg h]; rfl
set_option maxRecDepth 100000 in
theorem wordEnd_calls (s : ByteArray) (p : Nat) (w : World) (hp : p ≤ s.size) (hs : s.size ≤ 1000000) :
    Calls Tryd.prog 53 #[.string s, .int .i64 p] w fun e w' => e = .returned (.int .i64 ((p + wordM ((bs s).drop p) : Nat) : Int)) ∧ w = w' := by
  go_enter Tryd.func53, Tryd.ntmps53
  go_wp2_with fail
  go_loop [1] (fun i => ∃ k : Nat, k ≤ s.size ∧ i = .int .i64 k ∧ Hid (k + wordM ((bs s).drop k) = p + wordM ((bs s).drop p))) (fun i => s.size - (intOf i).toNat)
  case atStart => exact ⟨p, hp, rfl, Lib.hid rfl⟩
  case round =>
    obtain ⟨k, hk, rfl, HE⟩ := hrel
    by_cases hlt : k < s.size
    · have ST : Hid (wordM ((bs s).drop k) = if wordB (s[k]).toNat = true then wordM ((bs s).drop (k + 1)) + 1 else 0) := Lib.hid (by rw [bs_drop hlt, wordM_cons])
      have cw := inWord_calls (s[k]).toNat w
      cases hb : wordB (s[k]).toNat with
      | true =>
        rw [hb] at cw ST
        have NX : Hid (k + 1 + wordM ((bs s).drop (k + 1)) = p + wordM ((bs s).drop p)) := Lib.hid (by rw [← HE.out, ST.out, if_pos rfl]; omega)
        clear hb
        go_wp2_with fail
        refine cw.mono ?_
        rintro e w' ⟨rfl, rfl⟩
        go_wp2_with fail
        go_round
        case rel => exact ⟨k + 1, by omega, by go_num, NX⟩
        case measure => simp [intOf]; omega
      | false =>
        rw [hb] at cw ST
        have FX : Hid ((k : Int) = ((p + wordM ((bs s).drop p) : Nat) : Int)) := Lib.hid (by rw [← HE.out, ST.out, if_neg Bool.false_ne_true]; simp)
        clear hb
        go_wp2_with fail
        refine cw.mono ?_
        rintro e w' ⟨rfl, rfl⟩
        go_wp2_with fail
        go_ret
        exact ⟨ret_int FX.out, rfl⟩
    · have FX : Hid ((k : Int) = ((p + wordM ((bs s).drop p) : Nat) : Int)) := Lib.hid (by rw [← HE.out, bs_end hlt]; simp [wordM])
      go_wp2_with fail
      go_ret
      exact ⟨ret_int FX.out, rfl⟩
def TrueRet (w : World) (e : Ending) (w' : World) : Prop := e = .returned (.bool true) ∧ Below w.heap.size w w'
def qB (b : UInt8) : Bytes := if b.toNat = 10 then [92, 110] else if b.toNat = 34 then [92, 34] else if b.toNat = 92 then [92, 92] else [b]
def quoteM (l : Bytes) : Bytes := l.flatMap qB
def quoteT (l : Bytes) : Bytes := 34 :: (quoteM l ++ [34])
theorem u8_eq {b : UInt8} {n : Nat} (hn : n < 256) (h : b.toNat = n) : b = UInt8.ofNat n := by rw [← h, UInt8.ofNat_toNat]
theorem quoteM_len (l : Bytes) : (quoteM l).length ≤ 2 * l.length := by
  induction l with
  | nil => simp [quoteM]
  | cons b l ih =>
    rw [show quoteM (b :: l) = qB b ++ quoteM l from rfl, List.length_append, List.length_cons]
    have : (qB b).length ≤ 2 := by unfold qB; split; simp; split; simp; split <;> simp
    omega
theorem quoteM_take {s : ByteArray} {k : Nat} (h : k < s.size) : quoteM ((bs s).take (k + 1)) = quoteM ((bs s).take k) ++ qB s[k] := by
  have hl : k < (bs s).length := by rw [bs_len]; exact h
  rw [List.take_succ_eq_append_getElem hl]
  simp only [quoteM, List.flatMap_append, List.flatMap_cons, List.flatMap_nil, List.append_nil]
  rfl
theorem byteCells_len (l : Bytes) : (Lib.byteCells l).length = l.length := by simp [Lib.byteCells]
theorem byteCells_push (l : Bytes) (b : UInt8) : Lib.byteCells l ++ [.int .u8 (b.toNat : Int)] = Lib.byteCells (l ++ [b]) := by simp [Lib.byteCells]
def qT (s : ByteArray) : ByteArray := ⟨(quoteT (bs s)).toArray⟩
def StrRet (w : World) (t : ByteArray) (e : Ending) (w' : World) : Prop := e = .returned (.string t) ∧ Below w.heap.size w w'
theorem qB_len (b : UInt8) : (qB b).length ≤ 2 := by unfold qB; split; simp; split; simp; split <;> simp
theorem app_bytes (l m : Bytes) : (⟨l.toArray⟩ : ByteArray) ++ ⟨m.toArray⟩ = ⟨(l ++ m).toArray⟩ := by
  apply ByteArray.ext
  simp
theorem strCells_lit (m : Bytes) : Lib.strCells ⟨m.toArray⟩ = Lib.byteCells m := rfl
theorem byteCells_app (l m : Bytes) : Lib.byteCells l ++ Lib.byteCells m = Lib.byteCells (l ++ m) := by simp [Lib.byteCells]
theorem size_lit (m : Bytes) : (⟨m.toArray⟩ : ByteArray).size = m.length := by show m.toArray.size = _; simp
/-- The builder under way. -/
structure QW (w : World) (B : Nat) (acc : Bytes) (W : World) : Prop where
  bld : Lib.IsBuilderF 93 5 B B (Lib.byteCells acc) W
  bel : Below B w W
  sz : B ≤ W.heap.size
theorem QW.next {w : World} {B : Nat} {acc acc' : Bytes} {W W' : World} (h : QW w B acc W) (hb : Lib.IsBuilderF 93 5 B B (Lib.byteCells acc') W') (hbel : Below B W W') : QW w B acc' W' :=
  ⟨hb, h.bel.trans hbel, Nat.le_trans h.sz hbel.size⟩
theorem qw_new (w : World) {B : Nat} (hB : w.heap.size = B) : QW w B [] (w.alloc (.cells #[.pointer none, .slice none 0 0] 93)) :=
  ⟨.inl ⟨Nat.le_refl _, .slice none 0 0, by rw [← hB]; exact heap_alloc_new _ _, World.ownsRowF_nil _ _ _ _, by simp [Value.ownBlock]⟩, (Below.refl B w).alloc (by omega) _, by simp [hB]⟩
theorem QW.wb {w : World} {B : Nat} {acc : Bytes} {W : World} (h : QW w B acc W) (b : UInt8) (hl : acc.length ≤ 1000000) : Calls Tryd.prog 37 #[.pointer (some ⟨B, 0, none⟩), .int .u8 (b.toNat : Int)] W fun e w' => e = .returned .nilIface ∧ QW w B (acc ++ [b]) w' :=
  (Tryd.wb_k B B (Lib.byteCells acc) (b.toNat : Int) W h.bld (by rw [byteCells_len]; omega) h.sz).mono fun e w' ⟨he, hb, hbel, _⟩ => ⟨he, h.next (.inr (by rw [byteCells_push] at hb; exact hb)) hbel⟩
theorem QW.ws {w : World} {B : Nat} {acc : Bytes} {W : World} (h : QW w B acc W) (m : Bytes) (hl : acc.length ≤ 1000000) (hm : m.length ≤ 1000) : Calls Tryd.prog 35 #[.pointer (some ⟨B, 0, none⟩), .string ⟨m.toArray⟩] W fun e w' => e = .returned (.tuple #[.int .i64 (m.length : Int), .nilIface]) ∧ QW w B (acc ++ m) w' :=
  (Tryd.ws_k B B (Lib.byteCells acc) ⟨m.toArray⟩ W h.bld (by rw [byteCells_len, size_lit]; omega) h.sz).mono fun e w' ⟨he, hb, hbel, _⟩ => ⟨by rw [he, size_lit], h.next (.inr (by rw [strCells_lit, byteCells_app] at hb; exact hb)) hbel⟩
set_option maxRecDepth 100000 in
set_option maxHeartbeats 2000000 in
theorem quote_calls (s : ByteArray) (w : World) (hs : s.size ≤ 1000) : Calls Tryd.prog 41 #[.string s] w (StrRet w (qT s)) := by
  obtain ⟨B, hB⟩ : ∃ B, w.heap.size = B := ⟨_, rfl⟩
  have HB := Lib.hid hB
  have Q0 := Lib.hid (qw_new w hB)
  go_enter Tryd.func41, Tryd.ntmps41
  go_wp2_with fail
  generalize World.alloc w _ = W0 at *
  clear hB
  refine (Q0.out.wb 34 (by simp)).mono ?_
  rintro e w1 ⟨rfl, hq1⟩
  have Q1 := Lib.hid hq1
  clear hq1 Q0
  go_wp2_with fail
  go_loopw [8] (fun i wr => ∃ k : Nat, k ≤ s.size ∧ i = .int .i64 k ∧ Hid (QW w B (34 :: quoteM ((bs s).take k)) wr)) (fun i _ => s.size - (intOf i).toNat)
  case atStart => exact ⟨0, Nat.zero_le _, rfl, Q1⟩
  case round =>
    obtain ⟨k, hk, rfl, HQ⟩ := hrel
    obtain ⟨acc, hacc⟩ : ∃ acc, 34 :: quoteM ((bs s).take k) = acc := ⟨_, rfl⟩
    have hal : acc.length ≤ 3000 := by
      have h1 := quoteM_len ((bs s).take k)
      rw [List.length_take, bs_len] at h1
      rw [← hacc, List.length_cons]; omega
    have QR := HQ
    rw [hacc] at QR
    have HA := Lib.hid hacc.symm
    clear hacc HQ Q1
    by_cases hlt : k < s.size
    · by_cases h10 : (s[k]).toNat = 10
      · have t10 : (((s[k]).toNat : Int) == 10) = true := by simp [h10]
        have NX : Hid (acc ++ [92, 110] = 34 :: quoteM ((bs s).take (k + 1))) := Lib.hid (by rw [HA.out, quoteM_take hlt]; unfold qB; rw [if_pos h10]; rfl)
        clear h10
        go_wp2_with fail
        refine (QR.out.ws [92, 110] (by omega) (by simp)).mono ?_
        rintro e w2 ⟨rfl, hq9⟩
        rw [NX.out] at hq9
        have Q9 := Lib.hid hq9
        clear hq9
        go_wp2_with fail
        go_roundw
        case rel => exact ⟨k + 1, by omega, by go_num, Q9⟩
        case measure => simp [intOf]; omega
      have t10 : (((s[k]).toNat : Int) == 10) = false := beq_eq_false_iff_ne.2 (by omega)
      by_cases h34 : (s[k]).toNat = 34
      · have t34 : (((s[k]).toNat : Int) == 34) = true := by simp [h34]
        have hv : s[k] = 34 := by rw [u8_eq (n := 34) (by decide) h34]; rfl
        have NX : Hid (acc ++ [92, 34] = 34 :: quoteM ((bs s).take (k + 1))) := Lib.hid (by rw [HA.out, quoteM_take hlt]; unfold qB; rw [if_neg h10, if_pos h34]; rfl)
        have HV := Lib.hid hv
        clear h10 h34 hv
        go_wp2_with fail
        refine (QR.out.wb 92 (by omega)).mono ?_
        rintro e w2 ⟨rfl, hq2⟩
        have c2 := hq2.wb s[k] (by simp; omega)
        rw [List.append_assoc] at c2
        go_wp2_with fail
        refine c2.mono ?_
        rintro e w3 ⟨rfl, hq9⟩
        rw [show ([92] ++ [s[k]] : Bytes) = [92, 34] by rw [HV.out]; rfl] at hq9
        clear c2 hq2
        rw [NX.out] at hq9
        have Q9 := Lib.hid hq9
        clear hq9
        go_wp2_with fail
        go_roundw
        case rel => exact ⟨k + 1, by omega, by go_num, Q9⟩
        case measure => simp [intOf]; omega
      have t34 : (((s[k]).toNat : Int) == 34) = false := beq_eq_false_iff_ne.2 (by omega)
      by_cases h92 : (s[k]).toNat = 92
      · have t92 : (((s[k]).toNat : Int) == 92) = true := by simp [h92]
        have hv : s[k] = 92 := by rw [u8_eq (n := 92) (by decide) h92]; rfl
        have NX : Hid (acc ++ [92, 92] = 34 :: quoteM ((bs s).take (k + 1))) := Lib.hid (by rw [HA.out, quoteM_take hlt]; unfold qB; rw [if_neg h10, if_neg h34, if_pos h92]; rfl)
        have HV := Lib.hid hv
        clear h10 h34 h92 hv
        go_wp2_with fail
        refine (QR.out.wb 92 (by omega)).mono ?_
        rintro e w2 ⟨rfl, hq2⟩
        have c2 := hq2.wb s[k] (by simp; omega)
        rw [List.append_assoc] at c2
        go_wp2_with fail
        refine c2.mono ?_
        rintro e w3 ⟨rfl, hq9⟩
        rw [show ([92] ++ [s[k]] : Bytes) = [92, 92] by rw [HV.out]; rfl] at hq9
        clear c2 hq2
        rw [NX.out] at hq9
        have Q9 := Lib.hid hq9
        clear hq9
        go_wp2_with fail
        go_roundw
        case rel => exact ⟨k + 1, by omega, by go_num, Q9⟩
        case measure => simp [intOf]; omega
      have t92 : (((s[k]).toNat : Int) == 92) = false := beq_eq_false_iff_ne.2 (by omega)
      have NX : Hid (acc ++ [s[k]] = 34 :: quoteM ((bs s).take (k + 1))) := Lib.hid (by rw [HA.out, quoteM_take hlt]; unfold qB; rw [if_neg h10, if_neg h34, if_neg h92]; rfl)
      clear h10 h34 h92
      have c2 := QR.out.wb s[k] (by omega)
      go_wp2_with fail
      refine c2.mono ?_
      rintro e w3 ⟨rfl, hq9⟩
      clear c2
      rw [NX.out] at hq9
      have Q9 := Lib.hid hq9
      clear hq9
      go_wp2_with fail
      go_roundw
      case rel => exact ⟨k + 1, by omega, by go_num, Q9⟩
      case measure => simp [intOf]; omega
    · have FX : Hid (acc ++ [34] = quoteT (bs s)) := Lib.hid (by rw [HA.out, List.take_of_length_le (by rw [bs_len]; omega)]; rfl)
      go_wp2_with fail
      refine (QR.out.wb 34 (by omega)).mono ?_
      rintro e w2 ⟨rfl, hq2⟩
      rw [FX.out] at hq2
      have c3 := Tryd.Builder_String_any_k B B (quoteT (bs s)) w2 hq2.bld hq2.sz
      have Q2 := Lib.hid hq2
      clear hq2
      go_wp2_with fail
      refine c3.mono ?_
      rintro e w3 ⟨rfl, _, hbel3, _⟩
      have B3 : Hid (Below B w w3) := Lib.hid (Q2.out.bel.trans hbel3)
      clear c3 hbel3
      go_wp2_with fail
      go_ret
      exact ⟨rfl, by rw [HB.out]; exact B3.out⟩
def okB (i b : Nat) : Bool := if i = 0 then lowB b else wordB b
/-- A text that is one name, but not 'not'. -/
def PlainP (s : ByteArray) : Prop := ¬ s = ⟨#[]⟩ ∧ ¬ s = ⟨#[110, 111, 116]⟩ ∧ ∀ i (h : i < s.size), okB i (s[i]).toNat = true
theorem low_word {b : Nat} (h : lowB b = true) : wordB b = true := by simp [wordB, h]
theorem wordM_all (l : Bytes) : wordM l = l.length ↔ ∀ b ∈ l, wordB b.toNat = true := by
  induction l with
  | nil => simp [wordM]
  | cons b l ih =>
    rw [wordM_cons, List.length_cons]
    by_cases h : wordB b.toNat = true
    · rw [if_pos h]; simp [h, ← ih]
    · rw [if_neg h]; simp [h]
theorem bs_mem {s : ByteArray} {b : UInt8} (h : b ∈ bs s) : ∃ i, ∃ (hi : i < s.size), s[i] = b := by
  obtain ⟨i, hi, e⟩ := List.getElem_of_mem h
  exact ⟨i, by rw [bs_len] at hi; exact hi, e⟩
theorem mem_bs {s : ByteArray} {i : Nat} (hi : i < s.size) : s[i] ∈ bs s := by
  have h2 : i < (bs s).length := by rw [bs_len]; exact hi
  exact List.getElem_mem h2
theorem plain_iff {s : ByteArray} (h0 : 0 < s.size) (h1 : ¬ s = ⟨#[]⟩) (h2 : ¬ s = ⟨#[110, 111, 116]⟩) (hl : lowB (s[0]).toNat = true) : wordM (bs s) = s.size ↔ PlainP s := by
  rw [← bs_len s, wordM_all]
  constructor
  · intro H
    refine ⟨h1, h2, fun i hi => ?_⟩
    unfold okB
    by_cases e : i = 0
    · subst e; rw [if_pos rfl]; exact hl
    · rw [if_neg e]; exact H _ (mem_bs hi)
  · rintro ⟨_, _, H⟩ b hb
    obtain ⟨i, hi, rfl⟩ := bs_mem hb
    have := H i hi
    unfold okB at this
    by_cases e : i = 0
    · subst e; exact low_word hl
    · rw [if_neg e] at this; exact this
theorem toList_ne {x y : ByteArray} (h : ¬ x = y) : (x.toList == y.toList) = false := by
  rw [ByteArray.toList_eq, ByteArray.toList_eq]
  refine beq_eq_false_iff_ne.2 fun e => h ?_
  cases x; cases y; simp only [ByteArray.mk.injEq]; exact Array.toList_inj.1 e
theorem bytes_lit (l : List UInt8) : (⟨l.toArray⟩ : ByteArray).toList = l := by rw [ByteArray.toList_eq]
theorem size_pos {s : ByteArray} (h : ¬ s = ⟨#[]⟩) : 0 < s.size := by
  refine Nat.pos_of_ne_zero fun h0 => h ?_
  cases s with
  | mk d => have : d = #[] := Array.eq_empty_of_size_eq_zero h0
            rw [this]
def IffRet (p : Prop) (w : World) (e : Ending) (w' : World) : Prop := (∃ b : Bool, e = .returned (.bool b) ∧ (b = true ↔ p)) ∧ w = w'
set_option maxRecDepth 100000 in
theorem plain_calls (s : ByteArray) (w : World) (hs : s.size ≤ 1000) : Calls Tryd.prog 40 #[.string s] w (IffRet (PlainP s) w) := by
  by_cases h1 : s = ⟨#[]⟩
  · subst h1
    go_enter Tryd.func40, Tryd.ntmps40
    go_wp2_with fail
    go_ret
    exact ⟨⟨false, rfl, ⟨(fun h => by cases h), fun h => absurd rfl h.1⟩⟩, rfl⟩
  by_cases h2 : s = ⟨#[110, 111, 116]⟩
  · subst h2
    go_enter Tryd.func40, Tryd.ntmps40
    go_wp2_with fail
    go_ret
    exact ⟨⟨false, rfl, ⟨(fun h => by cases h), fun h => absurd rfl h.2.1⟩⟩, rfl⟩
  have h0 := size_pos h1
  have n0 : s.toList.isEmpty = false := by have h5 := toList_ne (x := ⟨#[]⟩) (y := s) (fun h => h1 h.symm); rw [show (⟨#[]⟩ : ByteArray).toList = [] from bytes_lit []] at h5; cases hs : s.toList with | nil => rw [hs] at h5; cases h5 | cons a b => rfl
  have n1 : (s.toList == ([110, 111, 116] : List UInt8)) = false := by have h5 := toList_ne (x := s) (y := ⟨#[110, 111, 116]⟩) h2; rw [show (⟨#[110, 111, 116]⟩ : ByteArray).toList = [110, 111, 116] from bytes_lit _] at h5; exact h5
  have n2 : ¬ s.toList = ([110, 111, 116] : List UInt8) := fun e => by rw [e] at n1; cases n1
  have n3 : ¬ s.toList = ([] : List UInt8) := fun e => by rw [e] at n0; cases n0
  have cl := isLower_calls (s[0]).toNat w
  have cw : Calls Tryd.prog 53 #[.string s, .int .i64 0] w fun e w' => e = .returned (.int .i64 (wordM (bs s) : Nat)) ∧ w = w' := by
    have := wordEnd_calls s 0 w (by omega) (by omega)
    rw [Nat.zero_add, List.drop_zero] at this; exact this
  cases hb : lowB (s[0]).toNat with
  | false =>
    rw [hb] at cl
    have NO : Hid (¬ PlainP s) := Lib.hid (fun h => by have := h.2.2 0 h0; unfold okB at this; rw [if_pos rfl, hb] at this; cases this)
    clear hb h1 h2
    go_enter Tryd.func40, Tryd.ntmps40
    go_wp2_with fail
    refine cl.mono ?_
    rintro e w' ⟨rfl, rfl⟩
    go_wp2_with fail
    go_ret
    exact ⟨⟨false, rfl, ⟨(fun h => by cases h), fun h => absurd h NO.out⟩⟩, rfl⟩
  | true =>
    rw [hb] at cl
    have IF := Lib.hid (plain_iff h0 h1 h2 hb)
    clear hb h1 h2
    generalize wordM (bs s) = m at *
    go_enter Tryd.func40, Tryd.ntmps40
    go_wp2_with fail
    refine cl.mono ?_
    rintro e w' ⟨rfl, rfl⟩
    go_wp2_with fail
    refine cw.mono ?_
    rintro e w' ⟨rfl, rfl⟩
    go_wp2_with fail
    go_ret
    refine ⟨⟨_, rfl, ?_⟩, rfl⟩
    rw [beq_iff_eq, ← IF.out]
    omega
end Go.Proofs.YtaglbeokecbihaaDoor
