/- Contracts of group's Word and Of over the table of words; the statements' own made. -/
import Derived.Test.YtcecndjkfdaaaaaDoorGr1
namespace Go.Proofs.YtcecndjkfdaaaaaDoor
open Go.RowKit
set_option linter.unusedVariables false
set_option linter.unusedSimpArgs false

/-- What the walk is told of the table of words: its five cells. -/
structure Words (w : World) : Prop where
  c0 : w.cell? ⟨0, 0, none⟩ = some (.string ⟨#[]⟩)
  c1 : w.cell? ⟨0, 1, none⟩ = some (.string ⟨#[99, 111, 117, 110, 116]⟩)
  c2 : w.cell? ⟨0, 2, none⟩ = some (.string ⟨#[115, 117, 109]⟩)
  c3 : w.cell? ⟨0, 3, none⟩ = some (.string ⟨#[109, 105, 110]⟩)
  c4 : w.cell? ⟨0, 4, none⟩ = some (.string ⟨#[109, 97, 120]⟩)
theorem Words.pos {w : World} (h : Words w) : 0 < w.heap.size := World.block_lt_of_cell? w _ h.c0
theorem Words.below {w w' : World} (h : Words w) (hb : Below w.heap.size w w') : Words w' := by
  have hp := h.pos
  have key : ∀ i, w'.cell? ⟨0, i, none⟩ = w.cell? ⟨0, i, none⟩ := fun i => hb.cell (p := ⟨0, i, none⟩) hp
  exact ⟨(key 0).trans h.c0, (key 1).trans h.c1, (key 2).trans h.c2, (key 3).trans h.c3, (key 4).trans h.c4⟩
def wordOf (k : Int) : ByteArray := if k = 1 then ⟨#[99, 111, 117, 110, 116]⟩ else if k = 2 then ⟨#[115, 117, 109]⟩ else if k = 3 then ⟨#[109, 105, 110]⟩ else if k = 4 then ⟨#[109, 97, 120]⟩ else ⟨#[]⟩
theorem ret_str {s t : ByteArray} (h : s = t) : Ending.returned (.string s) = .returned (.string t) := by rw [h]
theorem word_calls (k : Int) (w : World) (hs : Words w) (hk : -9223372036854775808 ≤ k ∧ k ≤ 9223372036854775807) :
    Calls Tryd.prog 10 #[.int .i64 k] w fun e w' => e = .returned (.string (wordOf k)) ∧ w = w' := by
  obtain ⟨c0, c1, c2, c3, c4⟩ := hs
  by_cases k0 : k = 0
  · subst k0
    go_enter Tryd.func10, Tryd.ntmps10
    go_wp2
    go_ret
    exact ⟨rfl, rfl⟩
  by_cases k1 : k = 1
  · subst k1
    go_enter Tryd.func10, Tryd.ntmps10
    go_wp2
    go_ret
    exact ⟨rfl, rfl⟩
  by_cases k2 : k = 2
  · subst k2
    go_enter Tryd.func10, Tryd.ntmps10
    go_wp2
    go_ret
    exact ⟨rfl, rfl⟩
  by_cases k3 : k = 3
  · subst k3
    go_enter Tryd.func10, Tryd.ntmps10
    go_wp2
    go_ret
    exact ⟨rfl, rfl⟩
  by_cases k4 : k = 4
  · subst k4
    go_enter Tryd.func10, Tryd.ntmps10
    go_wp2
    go_ret
    exact ⟨rfl, rfl⟩
  have R : Hid (wordOf k = ⟨#[]⟩) := Lib.hid (by simp [wordOf, k1, k2, k3, k4])
  by_cases h0 : k < 0
  · have t0 : decide (k < 0) = true := decide_eq_true h0
    clear k0 k1 k2 k3 k4
    go_enter Tryd.func10, Tryd.ntmps10
    go_wp2
    go_ret
    exact ⟨ret_str R.out.symm, rfl⟩
  · have t0 : decide (k < 0) = false := decide_eq_false h0
    have t1 : decide ((5 : Int) ≤ k) = true := decide_eq_true (by omega)
    clear k0 k1 k2 k3 k4
    go_enter Tryd.func10, Tryd.ntmps10
    go_wp2
    go_ret
    exact ⟨ret_str R.out.symm, rfl⟩
def ofW (s : ByteArray) : Int := if s = wordOf 1 then 1 else if s = wordOf 2 then 2 else if s = wordOf 3 then 3 else if s = wordOf 4 then 4 else 0
def wAgg : Value := .agg #[.string ⟨#[]⟩, .string ⟨#[99, 111, 117, 110, 116]⟩, .string ⟨#[115, 117, 109]⟩, .string ⟨#[109, 105, 110]⟩, .string ⟨#[109, 97, 120]⟩]
theorem idx0 (w : World) : (Instr.index 48 (.agg #[.string ⟨#[]⟩, .string ⟨#[99, 111, 117, 110, 116]⟩, .string ⟨#[115, 117, 109]⟩, .string ⟨#[109, 105, 110]⟩, .string ⟨#[109, 97, 120]⟩]) (.int .i64 0)).run Tryd.prog w = .ok (.string ⟨#[]⟩) w := by kernel_rfl
theorem idx1 (w : World) : (Instr.index 48 (.agg #[.string ⟨#[]⟩, .string ⟨#[99, 111, 117, 110, 116]⟩, .string ⟨#[115, 117, 109]⟩, .string ⟨#[109, 105, 110]⟩, .string ⟨#[109, 97, 120]⟩]) (.int .i64 1)).run Tryd.prog w = .ok (.string ⟨#[99, 111, 117, 110, 116]⟩) w := by kernel_rfl
theorem idx2 (w : World) : (Instr.index 48 (.agg #[.string ⟨#[]⟩, .string ⟨#[99, 111, 117, 110, 116]⟩, .string ⟨#[115, 117, 109]⟩, .string ⟨#[109, 105, 110]⟩, .string ⟨#[109, 97, 120]⟩]) (.int .i64 2)).run Tryd.prog w = .ok (.string ⟨#[115, 117, 109]⟩) w := by kernel_rfl
theorem idx3 (w : World) : (Instr.index 48 (.agg #[.string ⟨#[]⟩, .string ⟨#[99, 111, 117, 110, 116]⟩, .string ⟨#[115, 117, 109]⟩, .string ⟨#[109, 105, 110]⟩, .string ⟨#[109, 97, 120]⟩]) (.int .i64 3)).run Tryd.prog w = .ok (.string ⟨#[109, 105, 110]⟩) w := by kernel_rfl
theorem idx4 (w : World) : (Instr.index 48 (.agg #[.string ⟨#[]⟩, .string ⟨#[99, 111, 117, 110, 116]⟩, .string ⟨#[115, 117, 109]⟩, .string ⟨#[109, 105, 110]⟩, .string ⟨#[109, 97, 120]⟩]) (.int .i64 4)).run Tryd.prog w = .ok (.string ⟨#[109, 97, 120]⟩) w := by kernel_rfl
attribute [local go_sem ↓] idx0 idx1 idx2 idx3 idx4
theorem toList_ne {x y : ByteArray} (h : ¬ x = y) : (x.toList == y.toList) = false := by
  rw [ByteArray.toList_eq, ByteArray.toList_eq]
  refine beq_eq_false_iff_ne.2 fun e => h ?_
  cases x; cases y; simp only [ByteArray.mk.injEq]; exact Array.toList_inj.1 e
theorem bytes_lit (l : List UInt8) : (⟨l.toArray⟩ : ByteArray).toList = l := by rw [ByteArray.toList_eq]
set_option maxRecDepth 100000 in
theorem of_miss (s : ByteArray) (w : World) (hs : Words w) (h0 : ¬ s = ⟨#[]⟩) (h1 : ¬ s = ⟨#[99, 111, 117, 110, 116]⟩) (h2 : ¬ s = ⟨#[115, 117, 109]⟩) (h3 : ¬ s = ⟨#[109, 105, 110]⟩) (h4 : ¬ s = ⟨#[109, 97, 120]⟩) : Calls Tryd.prog 9 #[.string s] w fun e w' => e = .returned (.int .i64 (ofW s)) ∧ w = w' := by
  obtain ⟨c0, c1, c2, c3, c4⟩ := hs
  have R : Hid (ofW s = 0) := Lib.hid (by
    have g1 : ¬ s = wordOf 1 := h1
    have g2 : ¬ s = wordOf 2 := h2
    have g3 : ¬ s = wordOf 3 := h3
    have g4 : ¬ s = wordOf 4 := h4
    simp [ofW, g1, g2, g3, g4])
  have e0 : s.toList.isEmpty = false := by have h5 := toList_ne (x := ⟨#[]⟩) (y := s) (fun h => h0 h.symm); rw [show (⟨#[]⟩ : ByteArray).toList = [] from bytes_lit []] at h5; cases hs : s.toList with | nil => rw [hs] at h5; cases h5 | cons a b => rfl
  have e1 : (([99, 111, 117, 110, 116] : List UInt8) == s.toList) = false := by have h5 := toList_ne (x := ⟨#[99, 111, 117, 110, 116]⟩) (y := s) (fun h => h1 h.symm); rw [show (⟨#[99, 111, 117, 110, 116]⟩ : ByteArray).toList = [99, 111, 117, 110, 116] from bytes_lit _] at h5; exact h5
  have e2 : (([115, 117, 109] : List UInt8) == s.toList) = false := by have h5 := toList_ne (x := ⟨#[115, 117, 109]⟩) (y := s) (fun h => h2 h.symm); rw [show (⟨#[115, 117, 109]⟩ : ByteArray).toList = [115, 117, 109] from bytes_lit _] at h5; exact h5
  have e3 : (([109, 105, 110] : List UInt8) == s.toList) = false := by have h5 := toList_ne (x := ⟨#[109, 105, 110]⟩) (y := s) (fun h => h3 h.symm); rw [show (⟨#[109, 105, 110]⟩ : ByteArray).toList = [109, 105, 110] from bytes_lit _] at h5; exact h5
  have e4 : (([109, 97, 120] : List UInt8) == s.toList) = false := by have h5 := toList_ne (x := ⟨#[109, 97, 120]⟩) (y := s) (fun h => h4 h.symm); rw [show (⟨#[109, 97, 120]⟩ : ByteArray).toList = [109, 97, 120] from bytes_lit _] at h5; exact h5
  clear h0 h1 h2 h3 h4
  go_enter Tryd.func9, Tryd.ntmps9
  go_wp2_with fail
  refine wp_loop_rounds 6 ?_
  rw [rounds_succ]
  go_wp2_with fail
  rw [rounds_succ]
  go_wp2_with fail
  rw [rounds_succ]
  go_wp2_with fail
  rw [rounds_succ]
  go_wp2_with fail
  rw [rounds_succ]
  go_wp2_with fail
  rw [rounds_succ]
  go_wp2_with fail
  go_ret
  exact ⟨ret_int R.out.symm, rfl⟩
set_option maxRecDepth 100000 in
theorem of_calls (s : ByteArray) (w : World) (hs : Words w) : Calls Tryd.prog 9 #[.string s] w fun e w' => e = .returned (.int .i64 (ofW s)) ∧ w = w' := by
  have hw := hs
  obtain ⟨c0, c1, c2, c3, c4⟩ := hs
  by_cases h0 : s = ⟨#[]⟩
  · subst h0
    clear hw
    go_enter Tryd.func9, Tryd.ntmps9
    go_wp2_with fail
    refine wp_loop_rounds 1 ?_
    rw [rounds_succ]
    go_wp2_with fail
    go_ret
    exact ⟨ret_int (by decide +kernel), rfl⟩
  by_cases h1 : s = ⟨#[99, 111, 117, 110, 116]⟩
  · subst h1
    clear hw
    go_enter Tryd.func9, Tryd.ntmps9
    go_wp2_with fail
    refine wp_loop_rounds 2 ?_
    rw [rounds_succ]
    go_wp2_with fail
    rw [rounds_succ]
    go_wp2_with fail
    go_ret
    exact ⟨ret_int (by decide +kernel), rfl⟩
  by_cases h2 : s = ⟨#[115, 117, 109]⟩
  · subst h2
    clear hw
    go_enter Tryd.func9, Tryd.ntmps9
    go_wp2_with fail
    refine wp_loop_rounds 3 ?_
    rw [rounds_succ]
    go_wp2_with fail
    rw [rounds_succ]
    go_wp2_with fail
    rw [rounds_succ]
    go_wp2_with fail
    go_ret
    exact ⟨ret_int (by decide +kernel), rfl⟩
  by_cases h3 : s = ⟨#[109, 105, 110]⟩
  · subst h3
    clear hw
    go_enter Tryd.func9, Tryd.ntmps9
    go_wp2_with fail
    refine wp_loop_rounds 4 ?_
    rw [rounds_succ]
    go_wp2_with fail
    rw [rounds_succ]
    go_wp2_with fail
    rw [rounds_succ]
    go_wp2_with fail
    rw [rounds_succ]
    go_wp2_with fail
    go_ret
    exact ⟨ret_int (by decide +kernel), rfl⟩
  by_cases h4 : s = ⟨#[109, 97, 120]⟩
  · subst h4
    clear hw
    go_enter Tryd.func9, Tryd.ntmps9
    go_wp2_with fail
    refine wp_loop_rounds 5 ?_
    rw [rounds_succ]
    go_wp2_with fail
    rw [rounds_succ]
    go_wp2_with fail
    rw [rounds_succ]
    go_wp2_with fail
    rw [rounds_succ]
    go_wp2_with fail
    rw [rounds_succ]
    go_wp2_with fail
    go_ret
    exact ⟨ret_int (by decide +kernel), rfl⟩
  exact of_miss s w hw h0 h1 h2 h3 h4
set_option maxRecDepth 100000 in
theorem made_is (k : Int) (a : Option Addr) (cap : Nat) (zs : List Int) (w : World) (hR : Row w a zs) (hl : zs.length ≤ 1000) (hz : InR zs) :
    Calls Tryd.prog 8 #[.int .i64 k, .slice a zs.length cap] w fun e w' => e = .returned (.tuple #[.int .i64 (vOf (mkOf k zs)), .bool (okOf (mkOf k zs))]) ∧ w = w' := by
  by_cases h0 : zs.length = 0
  · obtain rfl : zs = [] := List.eq_nil_of_length_eq_zero h0
    have E := Lib.hid (mkOf_nil k)
    clear hR hz h0
    go_enter Tryd.func8, Tryd.ntmps8
    go_wp2_with fail
    go_ret2
    exact ⟨ret_two (by rw [E.out]; rfl) (by rw [E.out]; rfl), rfl⟩
  have h1 : 0 < zs.length := by omega
  have t0 : ((zs.length : Int) == 0) = false := beq_eq_false_iff_ne.2 (by omega)
  by_cases hlo : k < 1
  · have E : Hid (mkOf k zs = none) := Lib.hid (mkOf_no (.inl hlo))
    have t1 : decide (k < 1) = true := decide_eq_true hlo
    clear hR hz h0 hlo
    go_enter Tryd.func8, Tryd.ntmps8
    go_wp2_with fail
    go_ret2
    exact ⟨ret_two (by rw [E.out]; rfl) (by rw [E.out]; rfl), rfl⟩
  by_cases hhi : 4 < k
  · have E : Hid (mkOf k zs = none) := Lib.hid (mkOf_no (.inr hhi))
    have t1 : decide (k < 1) = false := decide_eq_false hlo
    have t2 : decide (4 < k) = true := decide_eq_true hhi
    clear hR hz h0 hlo hhi
    go_enter Tryd.func8, Tryd.ntmps8
    go_wp2_with fail
    go_ret2
    exact ⟨ret_two (by rw [E.out]; rfl) (by rw [E.out]; rfl), rfl⟩
  have hk : k = 1 ∨ k = 2 ∨ k = 3 ∨ k = 4 := by omega
  clear hlo hhi
  rcases hk with rfl | rfl | rfl | rfl
  · have E := Lib.hid (mkOf_1 h1)
    clear hR hz h0
    go_enter Tryd.func8, Tryd.ntmps8
    go_wp2_with fail
    go_ret2
    exact ⟨ret_two (by rw [E.out]; rfl) (by rw [E.out]; rfl), rfl⟩
  · have E := Lib.hid (mkOf_2 h1)
    have c := sumlist_calls _ zs w (row_reads cap hR) hl hz
    clear hR hz h0
    go_enter Tryd.func8, Tryd.ntmps8
    go_wp2_with fail
    refine c.mono ?_
    rintro e w' ⟨rfl, rfl⟩
    go_wp2_with fail
    go_ret2
    exact ⟨ret_two E.out.2.symm E.out.1.symm, rfl⟩
  · have E := Lib.hid (mkOf_3 h1)
    obtain ⟨b, off, rfl, hb, hc0⟩ := hR.at h1
    rw [Nat.add_zero] at hc0
    have HR := Lib.hid hR
    have E0 : Hid (loL zs = loF zs (zs[0]?.getD 0)) := Lib.hid rfl
    generalize zs[0]?.getD 0 = z0 at *
    clear hR hz h0
    go_enter Tryd.func8, Tryd.ntmps8
    go_wp2_with fail
    go_loop [35, 6] (fun i m => ∃ (j : Nat) (x : Int), j ≤ zs.length ∧ i = .int .i64 j ∧ m = .int .i64 x ∧ Hid (x = loF (zs.take j) z0)) (fun i _ => zs.length - (intOf i).toNat)
    case atStart => exact ⟨0, z0, by omega, rfl, rfl, Lib.hid rfl⟩
    case round =>
      obtain ⟨j, x, hj, rfl, rfl, HX⟩ := hrel
      by_cases hlt : j < zs.length
      · obtain ⟨b2, off2, e2, hb2, hc2⟩ := HR.out.at hlt
        cases e2
        have ST := Lib.hid (loF_take z0 hlt)
        generalize zs[j]?.getD 0 = y at *
        by_cases hy : y < x
        · have NX : Hid (y = loF (zs.take (j + 1)) z0) := Lib.hid (by rw [ST.out, ← HX.out, if_pos hy])
          have ty : decide (y < x) = true := decide_eq_true hy
          clear hy
          go_wp2_with fail
          go_round
          case rel => exact ⟨j + 1, y, by omega, by go_num, rfl, NX⟩
          case measure => simp [intOf]; omega
        · have NX : Hid (x = loF (zs.take (j + 1)) z0) := Lib.hid (by rw [ST.out, ← HX.out, if_neg hy])
          have ty : decide (y < x) = false := decide_eq_false hy
          clear hy
          go_wp2_with fail
          go_round
          case rel => exact ⟨j + 1, x, by omega, by go_num, rfl, NX⟩
          case measure => simp [intOf]; omega
      · have FX : Hid (x = loL zs) := Lib.hid (by rw [HX.out, E0.out, List.take_of_length_le (by omega)])
        go_wp2_with fail
        go_ret2
        exact ⟨ret_two (by rw [E.out, FX.out]; rfl) (by rw [E.out]; rfl), rfl⟩
  · have E := Lib.hid (mkOf_4 h1)
    obtain ⟨b, off, rfl, hb, hc0⟩ := hR.at h1
    rw [Nat.add_zero] at hc0
    have HR := Lib.hid hR
    have E0 : Hid (hiL zs = hiF zs (zs[0]?.getD 0)) := Lib.hid rfl
    generalize zs[0]?.getD 0 = z0 at *
    clear hR hz h0
    go_enter Tryd.func8, Tryd.ntmps8
    go_wp2_with fail
    go_loop [35, 6] (fun i m => ∃ (j : Nat) (x : Int), j ≤ zs.length ∧ i = .int .i64 j ∧ m = .int .i64 x ∧ Hid (x = hiF (zs.take j) z0)) (fun i _ => zs.length - (intOf i).toNat)
    case atStart => exact ⟨0, z0, by omega, rfl, rfl, Lib.hid rfl⟩
    case round =>
      obtain ⟨j, x, hj, rfl, rfl, HX⟩ := hrel
      by_cases hlt : j < zs.length
      · obtain ⟨b2, off2, e2, hb2, hc2⟩ := HR.out.at hlt
        cases e2
        have ST := Lib.hid (hiF_take z0 hlt)
        generalize zs[j]?.getD 0 = y at *
        by_cases hy : x < y
        · have NX : Hid (y = hiF (zs.take (j + 1)) z0) := Lib.hid (by rw [ST.out, ← HX.out, if_pos hy])
          have ty : decide (x < y) = true := decide_eq_true hy
          clear hy
          go_wp2_with fail
          go_round
          case rel => exact ⟨j + 1, y, by omega, by go_num, rfl, NX⟩
          case measure => simp [intOf]; omega
        · have NX : Hid (x = hiF (zs.take (j + 1)) z0) := Lib.hid (by rw [ST.out, ← HX.out, if_neg hy])
          have ty : decide (x < y) = false := decide_eq_false hy
          clear hy
          go_wp2_with fail
          go_round
          case rel => exact ⟨j + 1, x, by omega, by go_num, rfl, NX⟩
          case measure => simp [intOf]; omega
      · have FX : Hid (x = hiL zs) := Lib.hid (by rw [HX.out, E0.out, List.take_of_length_le (by omega)])
        go_wp2_with fail
        go_ret2
        exact ⟨ret_two (by rw [E.out, FX.out]; rfl) (by rw [E.out]; rfl), rfl⟩
end Go.Proofs.YtcecndjkfdaaaaaDoor
