/- The walk of MergeSorts. -/
import Derived.Test.YtkcpdkhdjgfigaaHp7
import Derived.Test.YtkcpdkhdjgfigaaRw
namespace Go.Proofs.Ytkcpdkhdjgfigaa
open Go.RowKit
set_option linter.unusedVariables false
set_option linter.unusedSimpArgs false

/-- The numbers of a list, all added bit by bit without carry. -/
def xorB : List Int → BitVec 64
  | [] => 0#64
  | x :: l => BitVec.ofInt 64 x ^^^ xorB l
theorem xorB_perm {a b : List Int} (h : a.Perm b) : xorB a = xorB b := by
  induction h with
  | nil => rfl
  | cons x _ ih => simp [xorB, ih]
  | swap x y l => simp only [xorB]; rw [← BitVec.xor_assoc, BitVec.xor_comm (BitVec.ofInt 64 y), BitVec.xor_assoc]
  | trans _ _ h1 h2 => exact h1.trans h2
theorem ofInt_wrap64 (n : Nat) (x : BitVec 64) (h : x.toNat = n) : BitVec.ofInt 64 (IntKind.i64.wrap (n : Int)) = x := by
  apply BitVec.eq_of_toNat_eq
  rw [BitVec.toNat_ofInt, IntKind.wrap_i64]
  have := x.isLt
  simp only [Nat.reducePow]
  omega
theorem xor_bits (a b : Int) : BitVec.ofInt 64 (bits .xor .i64 a b) = BitVec.ofInt 64 a ^^^ BitVec.ofInt 64 b := ofInt_wrap64 _ _ rfl
theorem xor_range (a b : Int) : -9223372036854775808 ≤ bits .xor .i64 a b ∧ bits .xor .i64 a b ≤ 9223372036854775807 := by
  show -9223372036854775808 ≤ IntKind.i64.wrap _ ∧ IntKind.i64.wrap _ ≤ 9223372036854775807
  rw [IntKind.wrap_i64]; omega
theorem zero_of_bits (a : Int) (h1 : -9223372036854775808 ≤ a) (h2 : a ≤ 9223372036854775807) (h : BitVec.ofInt 64 a = 0#64) : a = 0 := by
  have := congrArg BitVec.toNat h
  rw [BitVec.toNat_ofInt] at this
  simp only [Nat.reducePow, BitVec.toNat_ofNat, Nat.zero_mod] at this
  omega
theorem xor_step {s x : Int} {X Z : BitVec 64} (h : BitVec.ofInt 64 s ^^^ (BitVec.ofInt 64 x ^^^ X) = Z) : BitVec.ofInt 64 (bits .xor .i64 s x) ^^^ X = Z := by
  rw [xor_bits, BitVec.xor_assoc]; exact h
theorem xor_drop {zs : List Int} {k : Nat} (h : k < zs.length) : xorB (zs.drop k) = BitVec.ofInt 64 (zs[k]?.getD 0) ^^^ xorB (zs.drop (k + 1)) := by
  rw [List.drop_eq_getElem_cons h, List.getElem?_eq_getElem h]; rfl
theorem xor_step2 {s : Int} {zs : List Int} {k : Nat} (h : k < zs.length) (e : BitVec.ofInt 64 s = xorB (zs.drop k)) : BitVec.ofInt 64 (bits .xor .i64 s (zs[k]?.getD 0)) = xorB (zs.drop (k + 1)) := by
  rw [xor_bits, e, xor_drop h, BitVec.xor_comm, ← BitVec.xor_assoc, BitVec.xor_self, BitVec.zero_xor]
theorem take_push {zs : List Int} {k : Nat} {bag : List (Int × Int)} (h : k < zs.length) (hp : (bag.map Prod.fst).Perm (zs.take k)) (p : Int) : ((((zs[k]?.getD 0), p) :: bag).map Prod.fst).Perm (zs.take (k + 1)) := by
  rw [List.take_succ_eq_append_getElem h, List.getElem?_eq_getElem h]
  simp only [List.map_cons, Option.getD_some]
  exact (hp.cons _).trans (List.perm_append_comm (l₁ := [zs[k]]))

set_option maxRecDepth 100000 in
set_option maxHeartbeats 4000000 in
theorem sorts_walk (a : Option Addr) (cap : Nat) (zs : List Int) (w : World) (hR : Row w a zs) (hmx : zs.length ≤ maxLen) :
    Calls Try.prog 9 #[.slice a zs.length cap] w (TrueRet w) := by
  unfold maxLen at hmx
  obtain ⟨B, hB⟩ : ∃ B, w.heap.size = B := ⟨_, rfl⟩
  have HB0 := Lib.hid hB
  clear hB
  by_cases hlen : 200 < zs.length
  · go_enter Try.func9, Try.ntmps9
    go_wp2_with (first | (go_at_call 28; refine (head6_calls _).mono ?_; rintro e wh ⟨rfl, hbh⟩; have BH := Lib.hid hbh; clear hbh))
    go_ret
    exact ⟨rfl, BH.out⟩
  · have hlen' : zs.length ≤ 200 := by omega
    have t0 : decide ((200 : Int) < (zs.length : Int)) = false := decide_eq_false (by omega)
    go_enter Try.func9, Try.ntmps9
    go_wp2_with (first | (go_at_call 28; refine (head6_calls _).mono ?_; rintro e wh ⟨rfl, hbh⟩; have BH := Lib.hid hbh; clear hbh) | (go_at_call 34; refine (newheap_calls 35 _).mono ?_; rintro e w0 ⟨rfl, rfl⟩))
    have n0 := Lib.hid (hb_new (lt := ltL) (B := B) (w := wh) (by have := BH.out.size; rw [HB0.out] at this; exact this) fL)
    have b0 : Hid (Below B w (wh.alloc (.cells #[fL, .slice none 0 0, .int .i64 0] 90))) := Lib.hid ((show Below B w wh by have := BH.out; rw [HB0.out] at this; exact this).alloc (by have := BH.out.size; rw [HB0.out] at this; exact this) _)
    have HR := Lib.hid hR
    clear hR
    generalize World.alloc _ _ = w1 at *
    generalize wh.heap.size = g at n0 ⊢
    go_loopw [23] (fun s wr => ∃ (k : Nat) (bag : List (Int × Int)), k ≤ zs.length ∧ s = .int .i64 k ∧ Hid (HB B ltL wr g fL bag k) ∧ Hid ((bag.map Prod.fst).Perm (zs.take k)) ∧ Hid (Below B w wr)) (fun s _ => zs.length - (intOf s).toNat)
    case atStart => exact ⟨0, [], Nat.zero_le _, rfl, n0, Lib.hid (List.Perm.refl _), b0⟩
    case round =>
      obtain ⟨k, bag, hk, rfl, HH, HP, HBe⟩ := hrel
      have hbl : bag.length = k := by have := HP.out.length_eq; simp at this; omega
      have HBL := Lib.hid hbl
      clear hbl
      by_cases hlt : k < zs.length
      · obtain ⟨b, off, rfl, hb, hcell⟩ := (HR.out.belowB HB0.out HBe.out).at hlt
        have TP := Lib.hid (take_push hlt HP.out (k : Int))
        generalize zs[k]?.getD 0 = z at *
        go_wp2_with (first | (go_at_call 36; refine (hb_push ordL befL HH.out z (by rw [HBL.out]; omega) (by omega) (by omega)).mono ?_; rintro e w2 ⟨rfl, hh2, hb2⟩; have n2 := Lib.hid hh2; have b2 := Lib.hid (HBe.out.trans hb2); clear hh2 hb2))
        go_roundw
        case rel => exact ⟨k + 1, (z, (k : Int)) :: bag, by omega, by go_num, n2, TP, b2⟩
        case measure => simp [intOf]; omega
      · obtain rfl : k = zs.length := by omega
        have HV : Hid ((bag.map Prod.fst).Perm zs) := Lib.hid (by have := HP.out; rw [List.take_length] at this; exact this)
        obtain ⟨wm, rfl⟩ : ∃ x, x = wr := ⟨wr, rfl⟩
        clear HP n0 b0 hlt hk
        have HH0 := HH
        have HBe0 := HBe
        clear HH HBe
        generalize bag = bag0 at *
        go_wp2_with fail
        go_loopw [33, 6, 7, 8] (fun s c l x wr => ∃ (k : Nat) (bag : List (Int × Int)) (last sum : Int), k ≤ zs.length ∧ s = .int .i64 k ∧ c = .int .i64 k ∧ l = .int .i64 last ∧ x = .int .i64 sum ∧ Hid (bag.length + k = zs.length) ∧ Hid (HB B ltL wr g fL bag zs.length) ∧ Hid (0 < k → ∀ y ∈ bag, last ≤ y.1) ∧ Hid (BitVec.ofInt 64 sum ^^^ xorB (bag.map Prod.fst) = xorB zs) ∧ (-9223372036854775808 ≤ sum ∧ sum ≤ 9223372036854775807) ∧ Hid (Below B w wr)) (fun s _ _ _ _ => zs.length - (intOf s).toNat)
        case atStart => exact ⟨0, bag0, 0, 0, Nat.zero_le _, rfl, rfl, rfl, rfl, Lib.hid (by rw [HBL.out]; rfl), HH0, Lib.hid (fun h => absurd h (Nat.lt_irrefl _)), Lib.hid (by rw [xorB_perm HV.out, show BitVec.ofInt 64 0 = 0#64 by decide, BitVec.zero_xor]), ⟨by omega, by omega⟩, HBe0⟩
        case round =>
          obtain ⟨k, bag, last, sum, hk, rfl, rfl, rfl, rfl, HBL, HH, HLst, HX, hrange, HBe⟩ := hrel
          by_cases hlt : k < zs.length
          · have hbl : 0 < bag.length ∧ bag.length ≤ 1000000 := by have := HBL.out; omega
            by_cases hk0 : k = 0
            · subst hk0
              go_wp2_with fail
              refine (hb_pop ordL befL HH.out hbl.1 hbl.2).mono ?_
              rintro e w2 ⟨⟨x1, x2⟩, bag', rfl, hp, hl, hh2, hb2⟩
              have n2 := Lib.hid hh2
              have b2 := Lib.hid (HBe.out.trans hb2)
              have L2 : Hid (bag'.length + (0 + 1) = zs.length) := Lib.hid (by have h1 := HBL.out; have h2 := hp.length_eq; simp at h2; omega)
              have M2 : Hid (∀ y ∈ bag', x1 ≤ y.1) := Lib.hid (fun y hy => by have := hl y hy; rw [ltL_not] at this; simp only at this; omega)
              have X2 : Hid (BitVec.ofInt 64 (bits .xor .i64 sum x1) ^^^ xorB (bag'.map Prod.fst) = xorB zs) := Lib.hid (xor_step (by have h1 := HX.out; rw [xorB_perm (hp.map Prod.fst)] at h1; exact h1))
              have R2 := Lib.hid (xor_range sum x1)
              clear hp hl hh2 hb2
              go_wp2_with fail
              go_roundw
              case rel => exact ⟨1, bag', x1, _, by omega, by go_num, by go_num, rfl, rfl, L2, n2, Lib.hid (fun _ => M2.out), X2, R2.out, b2⟩
              case measure => simp [intOf]; omega
            · go_wp2_with fail
              refine (hb_pop ordL befL HH.out hbl.1 hbl.2).mono ?_
              rintro e w2 ⟨⟨x1, x2⟩, bag', rfl, hp, hl, hh2, hb2⟩
              have n2 := Lib.hid hh2
              have b2 := Lib.hid (HBe.out.trans hb2)
              have L2 : Hid (bag'.length + (k + 1) = zs.length) := Lib.hid (by have h1 := HBL.out; have h2 := hp.length_eq; simp at h2; omega)
              have M2 : Hid (∀ y ∈ bag', x1 ≤ y.1) := Lib.hid (fun y hy => by have := hl y hy; rw [ltL_not] at this; simp only at this; omega)
              have X2 : Hid (BitVec.ofInt 64 (bits .xor .i64 sum x1) ^^^ xorB (bag'.map Prod.fst) = xorB zs) := Lib.hid (xor_step (by have h1 := HX.out; rw [xorB_perm (hp.map Prod.fst)] at h1; exact h1))
              have R2 := Lib.hid (xor_range sum x1)
              have t1 : decide (x1 < last) = false := decide_eq_false (by have := HLst.out (by omega) (x1, x2) (hp.symm.subset (by simp)); simp only at this; omega)
              have t2 : (0 : Int) < (k : Int) := by omega
              clear hp hl hh2 hb2
              go_wp2_with fail
              go_roundw
              case rel => exact ⟨k + 1, bag', x1, _, by omega, by go_num, by go_num, rfl, rfl, L2, n2, Lib.hid (fun _ => M2.out), X2, R2.out, b2⟩
              case measure => simp [intOf]; omega
          · obtain rfl : k = zs.length := by omega
            have hb0 : bag = [] := by have := HBL.out; exact List.eq_nil_of_length_eq_zero (by omega)
            have HX1 : Hid (BitVec.ofInt 64 sum = xorB zs) := Lib.hid (by have h1 := HX.out; rw [hb0] at h1; simpa [xorB] using h1)
            have HH1 : Hid (HB B ltL wr g fL [] zs.length) := Lib.hid (by have := HH.out; rw [hb0] at this; exact this)
            clear hb0 HX HH HBL HLst hlt hk
            obtain ⟨wv, rfl⟩ : ∃ x, x = wr := ⟨wr, rfl⟩
            generalize sum = sum0 at *
            have hrange0 := hrange
            clear hrange
            go_wp2_with fail
            go_loop [60, 8] (fun s x => ∃ (k : Nat) (sum : Int), k ≤ zs.length ∧ s = .int .i64 k ∧ x = .int .i64 sum ∧ Hid (BitVec.ofInt 64 sum = xorB (zs.drop k)) ∧ (-9223372036854775808 ≤ sum ∧ sum ≤ 9223372036854775807)) (fun s _ => zs.length - (intOf s).toNat)
            case atStart => exact ⟨0, sum0, Nat.zero_le _, rfl, rfl, HX1, hrange0⟩
            case round =>
              obtain ⟨k, sum, hk, rfl, rfl, HX, hrange⟩ := hrel
              by_cases hlt : k < zs.length
              · obtain ⟨b, off, rfl, hb, hcell⟩ := (HR.out.belowB HB0.out HBe.out).at hlt
                have X2 := Lib.hid (xor_step2 hlt HX.out)
                have R2 := Lib.hid (xor_range sum (zs[k]?.getD 0))
                generalize zs[k]?.getD 0 = z at *
                go_wp2_with fail
                go_round
                case rel => exact ⟨k + 1, _, by omega, by go_num, rfl, X2, R2.out⟩
                case measure => simp [intOf]; omega
              · obtain rfl : k = zs.length := by omega
                obtain rfl : sum = 0 := zero_of_bits sum hrange.1 hrange.2 (by have := HX.out; rw [List.drop_length] at this; exact this)
                obtain ⟨_, _, own, hS, _⟩ := HH1.out
                have lc := hs_len hS 0 rfl
                have pc := hs_pop_none hS
                clear hS hlt
                go_wp2_with (first | (go_at_call 37; refine pc.mono ?_; rintro e w6 ⟨rfl, rfl⟩) | (go_at_call 38; refine lc.mono ?_; rintro e w6 ⟨rfl, rfl⟩))
                go_ret
                exact ⟨rfl, by rw [HB0.out]; exact HBe.out⟩
end Go.Proofs.Ytkcpdkhdjgfigaa
