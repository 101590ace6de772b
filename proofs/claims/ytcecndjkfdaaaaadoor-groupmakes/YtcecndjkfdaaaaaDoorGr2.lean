/- Contracts of group's isPosition, keyWidth and elementsFor. -/
import Derived.Test.YtcecndjkfdaaaaaDoorGr1
import Derived.Test.YtcecndjkfdaaaaaDoorIx9
namespace Go.Proofs.YtcecndjkfdaaaaaDoor
open Go.RowKit
set_option linter.unusedVariables false
set_option linter.unusedSimpArgs false

def posB (wd : Nat) (k : Int) : Bool := decide (0 ≤ k ∧ k < (wd : Int))
theorem isPos_calls {w : World} {p : Option Addr} {wd : Nat} {rs : List (List Int)} (h : Seg w p wd rs) (k : Int) (hwd : wd ≤ 1000) (hk : -9223372036854775808 ≤ k ∧ k ≤ 9223372036854775807) :
    Calls Tryd.prog 44 #[.pointer p, .int .i64 k] w fun e w' => e = .returned (.bool (posB wd k)) ∧ w = w' := by
  have cw := segWidth_calls h
  clear h
  by_cases h0 : 0 ≤ k
  · have t0 : decide ((0 : Int) ≤ k) = true := decide_eq_true h0
    by_cases h1 : k < (wd : Int)
    · have R : Hid (posB wd k = true) := Lib.hid (decide_eq_true ⟨h0, h1⟩)
      have t1 : decide (k < (wd : Int)) = true := decide_eq_true h1
      clear h0 h1
      go_enter Tryd.func44, Tryd.ntmps44
      go_wp2_with fail
      refine cw.mono ?_
      rintro e w' ⟨rfl, rfl⟩
      go_wp2_with fail
      go_ret
      exact ⟨ret_b R.out.symm, rfl⟩
    · have R : Hid (posB wd k = false) := Lib.hid (decide_eq_false (fun h => h1 h.2))
      have t1 : decide (k < (wd : Int)) = false := decide_eq_false h1
      clear h0 h1
      go_enter Tryd.func44, Tryd.ntmps44
      go_wp2_with fail
      refine cw.mono ?_
      rintro e w' ⟨rfl, rfl⟩
      go_wp2_with fail
      go_ret
      exact ⟨ret_b R.out.symm, rfl⟩
  · have t0 : decide ((0 : Int) ≤ k) = false := decide_eq_false h0
    have R : Hid (posB wd k = false) := Lib.hid (decide_eq_false (fun h => h0 h.1))
    clear h0 cw
    go_enter Tryd.func44, Tryd.ntmps44
    go_wp2_with fail
    go_ret
    exact ⟨ret_b R.out.symm, rfl⟩
theorem valid_step {wd : Nat} {keys : List Int} {i : Nat} (h : i < keys.length) : (validP wd (keys.take (i + 1))).length = (validP wd (keys.take i)).length + (if posB wd (keys[i]?.getD 0) = true then 1 else 0) := by
  rw [validP_take h]
  unfold posB
  by_cases e : 0 ≤ keys[i]?.getD 0 ∧ keys[i]?.getD 0 < (wd : Int)
  · rw [if_pos e, if_pos (decide_eq_true e)]; simp
  · rw [if_neg e, if_neg (by simpa using e)]; simp
theorem keyL_valid (row keys : List Int) : (keyL row keys).length = (validP row.length keys).length := by
  unfold keyL validP
  induction keys with
  | nil => rfl
  | cons k keys ih =>
    by_cases e : 0 ≤ k ∧ k < (row.length : Int)
    · simp [List.filterMap_cons, e, ih]
    · simp [List.filterMap_cons, e, ih]
set_option maxRecDepth 100000 in
theorem keyWidth_calls {w : World} {p : Option Addr} {wd : Nat} {rs : List (List Int)} (h : Seg w p wd rs) (a : Option Addr) (cap : Nat) (keys : List Int) (hR : Row w a keys) (hwd : wd ≤ 1000) (hl : keys.length ≤ 1000) (hz : InR keys) :
    Calls Tryd.prog 33 #[.pointer p, .slice a keys.length cap] w fun e w' => e = .returned (.int .i64 (validP wd keys).length) ∧ w = w' := by
  have HS := Lib.hid h
  have HR := Lib.hid hR
  have HZ := Lib.hid hz
  clear h hR hz
  go_enter Tryd.func33, Tryd.ntmps33
  go_wp2_with fail
  go_loop [10, 5] (fun s v => ∃ (k m : Nat), k ≤ keys.length ∧ s = .int .i64 k ∧ v = .int .i64 m ∧ m ≤ k ∧ Hid (m = (validP wd (keys.take k)).length)) (fun s _ => keys.length - (intOf s).toNat)
  case atStart => exact ⟨0, 0, Nat.zero_le _, rfl, rfl, Nat.le_refl _, Lib.hid rfl⟩
  case round =>
    obtain ⟨k, m, hk, rfl, rfl, hmk, HM⟩ := hrel
    by_cases hlt : k < keys.length
    · obtain ⟨b, off, rfl, hb, hc⟩ := HR.out.at hlt
      have ST := Lib.hid (valid_step (wd := wd) hlt)
      have hbd : -9223372036854775808 ≤ keys[k]?.getD 0 ∧ keys[k]?.getD 0 ≤ 9223372036854775807 := at_mem HZ.out k
      generalize keys[k]?.getD 0 = z at *
      have cp := isPos_calls HS.out z hwd hbd
      clear hbd
      cases hpb : posB wd z with
      | true =>
        rw [hpb] at cp ST
        have NX : Hid (m + 1 = (validP wd (keys.take (k + 1))).length) := Lib.hid (by rw [ST.out, HM.out]; rfl)
        clear hpb
        go_wp2_with fail
        refine cp.mono ?_
        rintro e w' ⟨rfl, rfl⟩
        go_wp2_with fail
        go_round
        case rel => exact ⟨k + 1, m + 1, by omega, by go_num, by go_num, by omega, NX⟩
        case measure => simp [intOf]; omega
      | false =>
        rw [hpb] at cp ST
        have NX : Hid (m = (validP wd (keys.take (k + 1))).length) := Lib.hid (by rw [ST.out, HM.out]; rfl)
        clear hpb
        go_wp2_with fail
        refine cp.mono ?_
        rintro e w' ⟨rfl, rfl⟩
        go_wp2_with fail
        go_round
        case rel => exact ⟨k + 1, m, by omega, by go_num, rfl, by omega, NX⟩
        case measure => simp [intOf]; omega
    · have FX : Hid (m = (validP wd keys).length) := Lib.hid (by rw [HM.out, List.take_of_length_le (by omega)])
      go_wp2_with fail
      go_ret
      exact ⟨ret_int (by rw [FX.out]), rfl⟩
/-- elementsFor answers yes, with a row of its own. -/
def ElRet (w : World) (zs : List Int) (e : Ending) (w' : World) : Prop := ∃ a cap, e = .returned (.tuple #[.slice a zs.length cap, .bool true]) ∧ Row w' a zs ∧ Below w.heap.size w w'
def ElNo (w : World) (e : Ending) (w' : World) : Prop := ∃ v, e = .returned (.tuple #[v, .bool false]) ∧ Below w.heap.size w w'
set_option maxRecDepth 100000 in
theorem elements_count {w : World} {p : Option Addr} {wd : Nat} {rs : List (List Int)} (h : Seg w p wd rs) (col : Int) (hrs : rs.length ≤ 1000) :
    Calls Tryd.prog 28 #[.int .i64 1, .pointer p, .int .i64 col] w (ElRet w (List.replicate rs.length 0)) := by
  obtain ⟨i1, hi', hz0', hz1', hz2'⟩ := info_parts info2
  have I' := Lib.hid hi'
  have Z0' := Lib.hid hz0'
  have Z1' := Lib.hid hz1'
  have Z2' := Lib.hid hz2'
  clear hi' hz0' hz1' hz2'
  obtain ⟨B, hB⟩ : ∃ B, w.heap.size = B := ⟨_, rfl⟩
  have HB := Lib.hid hB
  have cl := segLen_calls h
  clear h hB
  go_enter Tryd.func28, Tryd.ntmps28
  go_wp2_with fail
  refine cl.mono ?_
  rintro e w' ⟨rfl, rfl⟩
  clear cl
  go_wp2_with (first | (refine wpList_make_full _ rfl _ _ 22 rfl B 2 i1 (.int .i64 0) 1 Tryd.underlying22 I'.out Z0'.out Z1'.out .i64 .i64 _ _ rs.length rfl rfl rfl rfl ?d1 ?d2 ?d3 ?_))
  case d1 => rw [Z2'.out]; omega
  case d2 => unfold maxLen; omega
  case d3 => rw [HB.out]; exact Nat.le_refl _
  intro w1 hown hgrow
  rw [made_ints] at hown
  obtain ⟨a9, c9, e9, hr9⟩ := row_of_owns hown
  rw [List.length_replicate] at e9
  have E : Hid (ElRet w (List.replicate rs.length 0) (.returned (.tuple #[.slice a9 rs.length c9, .bool true])) w1) := Lib.hid ⟨a9, c9, by rw [List.length_replicate], hr9, by rw [HB.out]; exact grown_below hgrow (Nat.le_of_eq HB.out.symm)⟩
  rw [e9]
  clear hown hgrow hr9 e9
  go_wp2_with fail
  go_ret2
  exact E.out
set_option maxRecDepth 100000 in
theorem elements_col {w : World} {p : Option Addr} {wd : Nat} {rs : List (List Int)} (h : Seg w p wd rs) (k : Int) (hk : 2 ≤ k ∧ k ≤ 4) (c : Nat) (hc : c < wd) (hwd : wd ≤ 1000) (hrs : rs.length ≤ 1000) :
    Calls Tryd.prog 28 #[.int .i64 k, .pointer p, .int .i64 c] w (ElRet w (colOf rs c)) := by
  have cc := col_calls h c hc hwd (by omega)
  have HS := Lib.hid h
  have HP : Hid (posB wd (c : Int) = true) := Lib.hid (decide_eq_true ⟨by omega, by omega⟩)
  have t1 : (k == 1) = false := beq_eq_false_iff_ne.2 (by omega)
  have hk2 : k = 2 ∨ k = 3 ∨ k = 4 := by omega
  clear h hk
  rcases hk2 with rfl | rfl | rfl
  all_goals
    clear t1
    go_enter Tryd.func28, Tryd.ntmps28
    go_wp2_with fail
    refine cc.mono ?_
    rintro e w1 ⟨a9, c9, rfl, h1, h2, h3, h4⟩
    have cp := isPos_calls (HS.out.below h4) (c : Int) hwd (by omega)
    rw [HP.out] at cp
    have E : Hid (ElRet w (colOf rs c) (.returned (.tuple #[.slice a9 (colOf rs c).length c9, .bool true])) w1) := Lib.hid ⟨a9, c9, rfl, h1, h4⟩
    clear h1 h2 h3 h4 cc
    go_wp2_with fail
    refine cp.mono ?_
    rintro e w2 ⟨rfl, rfl⟩
    go_wp2_with fail
    go_ret2
    exact E.out
set_option maxRecDepth 100000 in
theorem col_none {w : World} {p : Option Addr} {wd : Nat} {rs : List (List Int)} (h : Seg w p wd rs) (k : Int) (hk : posB wd k = false) (hwd : wd ≤ 1000) (hb : -9223372036854775808 ≤ k ∧ k ≤ 9223372036854775807) :
    Calls Tryd.prog 43 #[.pointer p, .int .i64 k] w fun e w' => e = .returned (.slice none 0 0) ∧ w = w' := by
  have cw := segWidth_calls h
  clear h
  have hk' : k < 0 ∨ (wd : Int) ≤ k := by unfold posB at hk; simp at hk; omega
  clear hk
  by_cases h0 : k < 0
  · have t0 : decide (k < 0) = true := decide_eq_true h0
    clear h0 hk' cw
    go_enter Tryd.func43, Tryd.ntmps43
    go_wp2_with fail
    go_ret
    exact ⟨rfl, rfl⟩
  · have t0 : decide (k < 0) = false := decide_eq_false h0
    have t1 : decide ((wd : Int) ≤ k) = true := decide_eq_true (by omega)
    clear h0 hk'
    go_enter Tryd.func43, Tryd.ntmps43
    go_wp2_with fail
    refine cw.mono ?_
    rintro e w' ⟨rfl, rfl⟩
    go_wp2_with fail
    go_ret
    exact ⟨rfl, rfl⟩
set_option maxRecDepth 100000 in
theorem elements_no {w : World} {p : Option Addr} {wd : Nat} {rs : List (List Int)} (h : Seg w p wd rs) (k col : Int) (hn : k < 1 ∨ 4 < k ∨ (2 ≤ k ∧ k ≤ 4 ∧ posB wd col = false)) (hwd : wd ≤ 1000) (hk : -9223372036854775808 ≤ k ∧ k ≤ 9223372036854775807) (hb : -9223372036854775808 ≤ col ∧ col ≤ 9223372036854775807) :
    Calls Tryd.prog 28 #[.int .i64 k, .pointer p, .int .i64 col] w (ElNo w) := by
  by_cases hk1 : 2 ≤ k ∧ k ≤ 4
  · have hp : posB wd col = false := by rcases hn with h | h | h; omega; omega; exact h.2.2
    have cc := col_none h col hp hwd hb
    have cp := isPos_calls h col hwd hb
    rw [hp] at cp
    have hk2 : k = 2 ∨ k = 3 ∨ k = 4 := by omega
    clear h hn hk1 hp
    rcases hk2 with rfl | rfl | rfl
    all_goals
      go_enter Tryd.func28, Tryd.ntmps28
      go_wp2_with fail
      refine cc.mono ?_
      rintro e w1 ⟨rfl, rfl⟩
      go_wp2_with fail
      refine cp.mono ?_
      rintro e w2 ⟨rfl, rfl⟩
      go_wp2_with fail
      go_ret2
      exact ⟨_, rfl, Below.refl _ _⟩
  · have t1 : (k == 1) = false := beq_eq_false_iff_ne.2 (by omega)
    have t2 : (k == 2) = false := beq_eq_false_iff_ne.2 (by omega)
    have t3 : (k == 3) = false := beq_eq_false_iff_ne.2 (by omega)
    have t4 : (k == 4) = false := beq_eq_false_iff_ne.2 (by omega)
    clear h hn hk1
    go_enter Tryd.func28, Tryd.ntmps28
    go_wp2_with fail
    go_ret2
    exact ⟨_, rfl, Below.refl _ _⟩
end Go.Proofs.YtcecndjkfdaaaaaDoor
