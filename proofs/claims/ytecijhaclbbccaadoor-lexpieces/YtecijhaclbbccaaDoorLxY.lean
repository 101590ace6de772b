/- The rows of words that the statement LexPieces takes its tokens from; its signs; its digits. -/
import Derived.Test.YtecijhaclbbccaaDoorLxX
import Derived.Laws.IdiomStrings
namespace Go.Proofs.YtecijhaclbbccaaDoor
open Go.RowKit
set_option linter.unusedVariables false
set_option linter.unusedSimpArgs false

set_option maxRecDepth 100000 in
theorem name_cells (W : World) {j : Nat} (hj : j < 6) : (W.alloc (.cells #[.string ⟨#[112]⟩, .string ⟨#[101, 100, 103, 101]⟩, .string ⟨#[110, 111, 116]⟩, .string ⟨#[109, 105, 110]⟩, .string ⟨#[120, 95, 49]⟩, .string ⟨#[97, 66]⟩] 9)).cell? ⟨W.heap.size, j, none⟩ = some (.string ⟨(nameT.getD j []).toArray⟩) := by
  rw [World.cell?_alloc_at _ _ _ _ rfl]
  have h : j = 0 ∨ j = 1 ∨ j = 2 ∨ j = 3 ∨ j = 4 ∨ j = 5 := by omega
  rcases h with rfl | rfl | rfl | rfl | rfl | rfl <;> rfl
set_option maxRecDepth 100000 in
theorem var_cells (W : World) {j : Nat} (hj : j < 6) : (W.alloc (.cells #[.string ⟨#[88]⟩, .string ⟨#[89, 49]⟩, .string ⟨#[67, 111, 115, 116]⟩, .string ⟨#[65, 95, 98]⟩, .string ⟨#[90]⟩, .string ⟨#[81, 57]⟩] 9)).cell? ⟨W.heap.size, j, none⟩ = some (.string ⟨(varT.getD j []).toArray⟩) := by
  rw [World.cell?_alloc_at _ _ _ _ rfl]
  have h : j = 0 ∨ j = 1 ∨ j = 2 ∨ j = 3 ∨ j = 4 ∨ j = 5 := by omega
  rcases h with rfl | rfl | rfl | rfl | rfl | rfl <;> rfl
set_option maxRecDepth 100000 in
theorem str_cells (W : World) {j : Nat} (hj : j < 6) : (W.alloc (.cells #[.string ⟨#[]⟩, .string ⟨#[97, 32, 98]⟩, .string ⟨#[34]⟩, .string ⟨#[92]⟩, .string ⟨#[120, 10, 121]⟩, .string ⟨#[195, 169, 35]⟩] 9)).cell? ⟨W.heap.size, j, none⟩ = some (.string ⟨(strT.getD j []).toArray⟩) := by
  rw [World.cell?_alloc_at _ _ _ _ rfl]
  have h : j = 0 ∨ j = 1 ∨ j = 2 ∨ j = 3 ∨ j = 4 ∨ j = 5 := by omega
  rcases h with rfl | rfl | rfl | rfl | rfl | rfl <;> rfl
set_option maxRecDepth 100000 in
theorem sign_cells (W : World) {j : Nat} (hj : j < 18) : (W.alloc (.cells #[.string ⟨#[58, 45]⟩, .string ⟨#[58, 61]⟩, .string ⟨#[33, 61]⟩, .string ⟨#[60, 61]⟩, .string ⟨#[62, 61]⟩, .string ⟨#[40]⟩, .string ⟨#[41]⟩, .string ⟨#[44]⟩, .string ⟨#[46]⟩, .string ⟨#[61]⟩, .string ⟨#[60]⟩, .string ⟨#[62]⟩, .string ⟨#[43]⟩, .string ⟨#[45]⟩, .string ⟨#[42]⟩, .string ⟨#[47]⟩, .string ⟨#[37]⟩, .string ⟨#[64]⟩] 9)).cell? ⟨W.heap.size, j, none⟩ = some (.string ⟨(signs.getD j []).toArray⟩) := by
  rw [World.cell?_alloc_at _ _ _ _ rfl]
  have h : j = 0 ∨ j = 1 ∨ j = 2 ∨ j = 3 ∨ j = 4 ∨ j = 5 ∨ j = 6 ∨ j = 7 ∨ j = 8 ∨ j = 9 ∨ j = 10 ∨ j = 11 ∨ j = 12 ∨ j = 13 ∨ j = 14 ∨ j = 15 ∨ j = 16 ∨ j = 17 := by omega
  rcases h with rfl | rfl | rfl | rfl | rfl | rfl | rfl | rfl | rfl | rfl | rfl | rfl | rfl | rfl | rfl | rfl | rfl | rfl <;> rfl
set_option maxRecDepth 100000 in
set_option maxHeartbeats 1000000 in
theorem signs_calls (n : Int) (w : World) : Calls Tryd.prog 19 #[.int .i64 n] w (StrRet w ⟨(signs.getD (uN n % 18) []).toArray⟩) := by
  have hr := urem n 18 (by omega) (by omega)
  have hj : uN n % 18 < 18 := Nat.mod_lt _ (by omega)
  generalize uN n % 18 = j at *
  have hr2 : wrap64 ((IntKind.u64.wrap n).tmod 18) = (j : Int) := hr
  have HC := sign_cells w hj
  have B1 := Lib.hid ((Below.refl w.heap.size w).alloc (Nat.le_refl _) (.cells #[.string ⟨#[58, 45]⟩, .string ⟨#[58, 61]⟩, .string ⟨#[33, 61]⟩, .string ⟨#[60, 61]⟩, .string ⟨#[62, 61]⟩, .string ⟨#[40]⟩, .string ⟨#[41]⟩, .string ⟨#[44]⟩, .string ⟨#[46]⟩, .string ⟨#[61]⟩, .string ⟨#[60]⟩, .string ⟨#[62]⟩, .string ⟨#[43]⟩, .string ⟨#[45]⟩, .string ⟨#[42]⟩, .string ⟨#[47]⟩, .string ⟨#[37]⟩, .string ⟨#[64]⟩] 9))
  clear hr
  generalize (⟨(signs.getD j []).toArray⟩ : ByteArray) = t at *
  go_enter Tryd.func19, Tryd.ntmps19
  go_wp2_with fail
  go_ret
  exact ⟨rfl, B1.out⟩
theorem bs_app (a b : ByteArray) : bs (a ++ b) = bs a ++ bs b := by simp [bs]
theorem bs_mk (l : Bytes) : bs ⟨l.toArray⟩ = l := by simp [bs]
theorem one_byte (W : World) {d : Nat} (hd : d < 10) : (convert 62 9 (.slice (some ⟨W.heap.size, 0, none⟩) 1 1)).run Tryd.prog (W.alloc (.cells #[.int .u8 (48 + (d : Int))] 5)) = .ok (.string ⟨#[UInt8.ofNat (48 + d)]⟩) (W.alloc (.cells #[.int .u8 (48 + (d : Int))] 5)) := by
  have h := run_convert_bytes_back (P := Tryd.prog) (W.alloc (.cells #[.int .u8 (48 + (d : Int))] 5)) 62 9 5 ⟨W.heap.size, 0, none⟩ 1 [UInt8.ofNat (48 + d)] Tryd.underlying62 Tryd.underlying5 Tryd.underlying9 (fun j hj => by
    have hj' : j = 0 := by simp at hj; exact hj
    subst hj'
    rw [show (⟨W.heap.size, 0, none⟩ : Addr).add 0 = ⟨W.heap.size, 0, none⟩ by simp [Addr.add], World.cell?_alloc_at _ _ _ _ rfl]
    have : (UInt8.ofNat (48 + d)).toNat = 48 + d := by rw [UInt8.toNat_ofNat']; omega
    simp [this]; omega)
  exact h
set_option maxRecDepth 100000 in
set_option maxHeartbeats 1000000 in
theorem digits_calls (n : Nat) (hn : n ≤ 9223372036854775808) (w : World) : Calls Tryd.prog 18 #[.int .u64 n] w (StrRet w ⟨(digT n).toArray⟩) := by
  obtain ⟨B, hB⟩ : ∃ B, w.heap.size = B := ⟨_, rfl⟩
  have HB := Lib.hid hB
  have hL : (digs n).length ≤ 20 := digs_len n 20 (by omega)
  clear hB
  go_enter Tryd.func18, Tryd.ntmps18
  go_wp2_with fail
  go_loopw [0, 3] (fun v0 v3 wr => ∃ (m : Nat) (s : ByteArray), v0 = .int .u64 m ∧ v3 = .string s ∧ m ≤ n ∧ Hid (digs n = digs m ++ bs s) ∧ Hid (Below B w wr)) (fun v0 _ _ => (intOf v0).toNat)
  case atStart => exact ⟨n, ⟨#[]⟩, rfl, rfl, Nat.le_refl _, Lib.hid (by simp [bs]), Lib.hid (Below.refl _ _)⟩
  case round =>
    obtain ⟨m, s, rfl, rfl, hm, HD, HBe⟩ := hrel
    have hBr : B ≤ wr.heap.size := by have := HBe.out.size; rw [HB.out] at this; exact this
    have hs : s.size ≤ 20 := by have h9 := congrArg List.length HD.out; rw [List.length_append, bs_len] at h9; omega
    by_cases h0 : m = 0
    · subst h0
      have hds : digs n = bs s := by rw [HD.out, digs_zero]; rfl
      have hb : bs s = s.toList := by rw [ByteArray.toList_eq]; rfl
      by_cases he : n = 0
      · have e0 : s.toList.isEmpty = true := by rw [← hb, ← hds, he, digs_zero]; rfl
        have FX : Hid ((⟨(digT n).toArray⟩ : ByteArray) = ⟨#[48]⟩) := Lib.hid (by rw [he]; rfl)
        clear hds hb he
        go_wp2_with fail
        go_ret
        exact ⟨by rw [FX.out]; rfl, by rw [HB.out]; exact HBe.out⟩
      · have e0 : s.toList.isEmpty = false := by
          obtain ⟨c, r, h1, _⟩ := digs_head n he
          rw [← hb, ← hds, h1]; rfl
        have FX : Hid ((⟨(digT n).toArray⟩ : ByteArray) = s) := Lib.hid (by unfold digT; rw [if_neg he, hds]; cases s; simp [bs])
        clear hds hb he
        go_wp2_with fail
        go_ret
        exact ⟨by rw [FX.out]; rfl, by rw [HB.out]; exact HBe.out⟩
    · have t1 : decide ((0 : Int) < (m : Int)) = true := decide_eq_true (by omega)
      have d1 : ((m : Int)).tmod 10 = ((m % 10 : Nat) : Int) := by rw [Int.tmod_eq_emod_of_nonneg (by omega)]; omega
      have d2 : ((m : Int)).tdiv 10 = ((m / 10 : Nat) : Int) := by rw [Int.tdiv_eq_ediv_of_nonneg (by omega)]; omega
      have hd : m % 10 < 10 := Nat.mod_lt _ (by omega)
      have NX : Hid (digs n = digs (m / 10) ++ bs ((⟨#[UInt8.ofNat (48 + m % 10)]⟩ : ByteArray) ++ s)) := Lib.hid (by
        rw [HD.out, digs_pos h0, List.append_assoc, bs_app]; rfl)
      have hm2 : m / 10 < m := by omega
      have CV := one_byte wr hd
      have B2 : Hid (Below B w (wr.alloc (.cells #[.int .u8 (48 + ((m % 10 : Nat) : Int))] 5))) := Lib.hid (HBe.out.alloc hBr _)
      generalize m % 10 = d at *
      generalize UInt8.ofNat (48 + d) = c at *
      generalize m / 10 = q at *
      go_wp2_with fail
      go_roundw
      case rel => exact ⟨q, _, rfl, rfl, by omega, NX, B2⟩
      case measure => simp [intOf]; omega
end Go.Proofs.YtecijhaclbbccaaDoor
