/- The statement InternMany, walked. -/
import Derived.Test.YtplckcnmpnnkgaaIn5
import Derived.Laws.BytesArg
import Derived.Laws.Concat
namespace Go.Proofs.Ytplckcnmpnnkgaa
open Go.RowKit Go.Maps
set_option linter.unusedVariables false
set_option linter.unusedSimpArgs false

theorem ofInt_toNat (x : Int) : (BitVec.ofInt 64 x).toNat = (x % 18446744073709551616).toNat := by
  rw [BitVec.toNat_ofInt]; rfl
theorem mask11 (x : Int) : bits .and .i64 x 2047 = x % 2048 := by
  show IntKind.i64.wrap ((BitVec.ofInt 64 x &&& BitVec.ofInt 64 2047).toNat : Int) = _
  rw [BitVec.toNat_and, ofInt_toNat, show (BitVec.ofInt 64 2047).toNat = 2 ^ 11 - 1 by decide, Nat.and_two_pow_sub_one_eq_mod, IntKind.wrap_i64]
  omega

/-- The text of number k. -/
def nums (k : Nat) : List Int := [(k : Int) % 256, (k : Int) / 256]
def txt (k : Nat) : ByteArray := ⟨#[116]⟩ ++ strOfNums (nums k)
theorem txt_list (k : Nat) : (txt k).data.toList = [116, UInt8.ofNat (k % 256), UInt8.ofNat (k / 256)] := by
  have e : (txt k).data.toList = [116] ++ (strOfNums (nums k)).data.toList := by
    unfold txt; rw [ByteArray.data_append]; simp
  rw [e, strOfNums_data]
  simp only [nums, List.map_cons, List.map_nil, List.singleton_append]
  rw [show ((k : Int) % 256).toNat = k % 256 by omega, show ((k : Int) / 256).toNat = k / 256 by omega]
theorem txt_size (k : Nat) : (txt k).size = 3 := by
  unfold txt; rw [ByteArray.size_append, strOfNums_size]; rfl
theorem txt_inj {a b : Nat} (ha : a < 65536) (hb : b < 65536) (h : txt a = txt b) : a = b := by
  have h1 := txt_list a
  rw [h, txt_list b] at h1
  simp only [List.cons.injEq, and_true, true_and] at h1
  obtain ⟨h2, h3⟩ := h1
  have h4 := congrArg UInt8.toNat h2
  have h5 := congrArg UInt8.toNat h3
  simp only [UInt8.toNat_ofNat'] at h4 h5
  omega
def txts (m : Nat) : List ByteArray := (List.range m).map txt
theorem txts_succ (m : Nat) : txts (m + 1) = txts m ++ [txt m] := by simp [txts, List.range_succ]
theorem txts_len (m : Nat) : (txts m).length = m := by simp [txts]
theorem mem_txts (m p : Nat) (hm : m ≤ 2048) (hp : p < 2048) : mem (txts m) (txt p) = decide (p < m) := by
  induction m with
  | zero => simp [txts, mem]
  | succ m ih =>
    rw [txts_succ, mem_snoc, ih (by omega)]
    by_cases e : m = p
    · subst e; simp
    · have : ¬ txt m = txt p := fun h => e (txt_inj (by omega) (by omega) h)
      simp only [this, decide_false, Bool.or_false, decide_eq_decide]; omega
theorem place_txts (m p : Nat) (hm : m ≤ 2048) (hp : p < m) : place (txts m) (txt p) = p := by
  induction m with
  | zero => omega
  | succ m ih =>
    rw [txts_succ]
    by_cases e : m = p
    · subst e
      rw [place_snoc_new (by rw [mem_txts m m (by omega) (by omega)]; simp), txts_len]
    · rw [place_snoc_in (by rw [mem_txts m p (by omega) (by omega)]; simp; omega), ih (by omega) (by omega)]
theorem adds_txts (m : Nat) (hm : m < 2048) : adds (txts m) (txt m) = txts (m + 1) := by
  rw [adds_new (by rw [mem_txts m m (by omega) (by omega)]; simp), txts_succ]
theorem at_txts (m p : Nat) (hp : p < m) : atT (txts m) (p : Int) = txt p := by
  unfold atT; rw [Int.toNat_natCast, List.getD_eq_getElem?_getD]; simp [txts, List.getElem?_range hp]
theorem in_txts (m p : Nat) : inT (txts m) (p : Int) = decide (p < m) := by
  unfold inT; rw [txts_len]; simp

/-- string([]byte{..}) of the two bytes just laid. -/
theorem conv_run (k : Nat) (w : World) : (convert 40 9 (.slice (some ⟨w.heap.size, 0, none⟩) 2 2)).run Try.prog (w.alloc (.cells #[.int .u8 ((k : Int) % 256), .int .u8 ((k : Int) / 256)] 5)) =
    .ok (.string (strOfNums (nums k))) (w.alloc (.cells #[.int .u8 ((k : Int) % 256), .int .u8 ((k : Int) / 256)] 5)) := by
  refine run_convert_bytes_arg _ 40 5 Try.underlying40 Try.underlying5 w.heap.size 0 2 2 (nums k) rfl ?_ 9 Try.underlying9
  intro i hi
  rw [Nat.zero_add, cell_of_row _ w.heap.size i _ 5 (0, 0) (heap_alloc_new w _)]
  match i, hi with
  | 0, _ => rfl
  | 1, _ => rfl
theorem add_run (k : Nat) (w : World) : (Op.stringOp .add ⟨#[116]⟩ (strOfNums (nums k))).run Try.prog w = .ok (.string (txt k)) w :=
  run_string_add_sum w _ _ (by rw [strOfNums_size]; show 1 + 2 ≤ 9223372036854775807; decide)

set_option maxHeartbeats 2000000 in
theorem many_walk (n at' : Int) (w : World) :
    Calls Try.prog 6 #[.int .i64 n, .int .i64 at'] w (TrueRet w) := by
  have hm1 := mask11 n
  have hm2 := mask11 at'
  obtain ⟨m, hm⟩ : ∃ m : Nat, n % 2048 = (m : Int) := ⟨(n % 2048).toNat, by omega⟩
  obtain ⟨p, hp⟩ : ∃ p : Nat, at' % 2048 = (p : Int) := ⟨(at' % 2048).toNat, by omega⟩
  have hml : m ≤ 2047 := by omega
  have hpl : p ≤ 2047 := by omega
  rw [hm] at hm1
  rw [hp] at hm2
  clear hm hp
  have H2 := Lib.hid hm2
  clear hm2
  go_enter Try.func6, Try.ntmps6
  go_wp2_with fail
  refine (head_calls _).mono ?_
  rintro e w0 ⟨rfl, hb0⟩
  go_wp2_with fail
  clear hm1
  refine (new_calls _).mono ?_
  rintro e w1 ⟨rfl, hw1⟩
  obtain ⟨g, hg⟩ : ∃ g, w0.heap.size = g := ⟨_, rfl⟩
  have hT1 : Tab (fun k => g ≤ k) w1 g [] := by rw [hw1, ← hg]; exact tab_new w0 _ (Nat.le_refl _)
  have hb1 : Below g w0 w1 := by rw [hw1, ← hg]; exact (Below.refl _ _).alloc (Nat.le_refl _) _
  have hK1 : Keeps (fun k => g ≤ k) w0 w1 := Keeps.of_below hb1 (fun _ h => h)
  have HG := Lib.hid hg
  rw [hg]
  clear hw1 hg hb1
  go_wp2_with fail
  go_loopw [6] (fun i wr => ∃ k : Nat, k ≤ m ∧ i = .int .i64 k ∧ Tab (fun k => g ≤ k) wr g (txts k) ∧ Keeps (fun k => g ≤ k) w0 wr) (fun i _ => m - (intOf i).toNat)
  case atStart => exact ⟨0, Nat.zero_le _, rfl, hT1, hK1⟩
  case round =>
    clear hT1 hK1
    obtain ⟨k, hk, rfl, hT, hK⟩ := hrel
    have hs0 := hK.size
    by_cases hlt : k < m
    · have A := Lib.hid (adds_txts k (by omega))
      have P := Lib.hid (place_txts (k + 1) k (by omega) (by omega))
      have hTa := hT.below ((Below.refl wr.heap.size wr).alloc (Nat.le_refl _) (.cells #[.int .u8 ((k : Int) % 256), .int .u8 ((k : Int) / 256)] 5))
      have hKa := hK.alloc (.cells #[.int .u8 ((k : Int) % 256), .int .u8 ((k : Int) / 256)] 5)
      have hcv := conv_run k wr
      have had := add_run k
      have hsz := txt_size k
      have HSZ := Lib.hid hsz
      clear hT hsz
      go_wp2_with fail
      clear hcv had
      generalize wr.alloc (.cells #[.int .u8 ((k : Int) % 256), .int .u8 ((k : Int) / 256)] 5) = wa at *
      refine (id_calls hTa (txt k) (by rw [HSZ.out]; decide) (by rw [txts_len]; omega) (fun j hj => by have := hKa.size; rw [HG.out] at this; omega)).mono ?_
      rintro e w3 ⟨rfl, hT3, hK3⟩
      rw [A.out] at hT3 ⊢
      rw [P.out]
      have hKK := hKa.trans hK3
      clear hTa hKa hK3 hK
      go_wp2_with fail
      go_roundw
      case rel => exact ⟨k + 1, by omega, by go_num, hT3, hKK⟩
      case measure => simp [intOf]; omega
    · obtain rfl : k = m := by omega
      have hTa := hT.below ((Below.refl wr.heap.size wr).alloc (Nat.le_refl _) (.cells #[.int .u8 ((p : Int) % 256), .int .u8 ((p : Int) / 256)] 5))
      have hKa := hK.alloc (.cells #[.int .u8 ((p : Int) % 256), .int .u8 ((p : Int) / 256)] 5)
      have hcv := conv_run p wr
      have had := add_run p
      have hh := H2.out
      have hll := txts_len k
      have fc := find_calls hTa (txt p) (by rw [txt_size]; decide)
      have lc := len_calls hTa
      rw [hll] at lc
      rw [placeOr0, mem_txts k p (by omega) (by omega)] at fc
      by_cases hp : p < k
      · have tx := text_in hTa (p : Int) (by omega) (by rw [in_txts]; simpa using hp)
        rw [at_txts k p hp] at tx
        rw [place_txts k p (by omega) hp] at fc
        simp only [hp, decide_true, if_true] at fc
        have FC := Lib.hid fc
        have TX := Lib.hid tx
        have LC := Lib.hid lc
        clear fc tx lc hll hT hTa
        have hbel : Below w.heap.size w (wr.alloc (.cells #[.int .u8 ((p : Int) % 256), .int .u8 ((p : Int) / 256)] 5)) := hb0.trans ((hKa.below (by rw [HG.out]; exact Nat.le_refl _) (fun _ h => h)).mono (by rw [← HG.out]; exact hb0.size))
        have t1 : decide (p < k) = true := by simpa using hp
        have t2 : ((txt p).toList == (txt p).toList) = true := by simp
        go_wp2_with (first
          | (go_at_call 13; refine FC.out.mono ?_; rintro e w' ⟨rfl, rfl⟩)
          | (go_at_call 14; refine LC.out.mono ?_; rintro e w' ⟨rfl, rfl⟩)
          | (go_at_call 15; refine TX.out.mono ?_; rintro e w' ⟨rfl, rfl⟩))
        go_ret
        exact ⟨rfl, hbel⟩
      · have tx := text_out hTa (p : Int) (by omega) (by rw [in_txts]; simpa using hp)
        simp only [hp, decide_false, Bool.false_eq_true, if_false] at fc
        have FC := Lib.hid fc
        have TX := Lib.hid tx
        have LC := Lib.hid lc
        clear fc tx lc hll hT hTa
        have hbel : Below w.heap.size w (wr.alloc (.cells #[.int .u8 ((p : Int) % 256), .int .u8 ((p : Int) / 256)] 5)) := hb0.trans ((hKa.below (by rw [HG.out]; exact Nat.le_refl _) (fun _ h => h)).mono (by rw [← HG.out]; exact hb0.size))
        have t1 : decide (p < k) = false := by simpa using hp
        go_wp2_with (first
          | (go_at_call 13; refine FC.out.mono ?_; rintro e w' ⟨rfl, rfl⟩)
          | (go_at_call 14; refine LC.out.mono ?_; rintro e w' ⟨rfl, rfl⟩)
          | (go_at_call 15; refine TX.out.mono ?_; rintro e w' ⟨rfl, rfl⟩))
        go_ret
        exact ⟨rfl, hbel⟩
end Go.Proofs.Ytplckcnmpnnkgaa
