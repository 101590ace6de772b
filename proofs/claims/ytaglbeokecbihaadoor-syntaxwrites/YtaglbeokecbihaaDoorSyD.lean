/- E.Count at two kids; E.Count told whole. Written by mksyd.py. -/
import Derived.Test.YtaglbeokecbihaaDoorSyC
namespace Go.Proofs.YtaglbeokecbihaaDoor
open Go.RowKit
set_option linter.unusedVariables false
set_option linter.unusedSimpArgs false

set_option maxRecDepth 100000 in
set_option maxHeartbeats 2000000 in
theorem cnt_two (K0 N0 G0 O0 : Int) (ea eb : ET) (iha : CntAt ea) (ihb : CntAt eb) : CntAt (.two K0 N0 G0 O0 ea eb) := by
  intro d B K N G O adr len cap W hd he hB
  by_cases h7 : d = 7
  · subst h7; exact cnt_deep (.two K0 N0 G0 O0 ea eb) K N G O adr len cap W
  · obtain ⟨⟨e1, e2, e3, e4, hlen⟩, _, bl, off, va, vb, hadr, hbl, fa, fb, ha, hb⟩ := he
    clear e1 e2 e3 e4
    have hl : 2 ≤ len := hlen
    have hadr' : adr = some ⟨bl, off, none⟩ := hadr
    subst hadr'
    obtain ⟨a1, a2, a3, a4, a5, a6, a7⟩ := va
    obtain ⟨b1, b2, b3, b4, b5, b6, b7⟩ := vb
    have td : decide ((6 : Int) < (d : Int)) = false := decide_eq_false (by omega)
    have td2 : decide (6 < d) = false := decide_eq_false (by omega)
    have wd : IntKind.i64.wrap ((d : Int) + 1) = ((d + 1 : Nat) : Int) := by rw [IntKind.wrap_i64]; omega
    have CF : Hid (cnt d (.two K0 N0 G0 O0 ea eb) = if 1 + cnt (d + 1) ea < 100 then 1 + cnt (d + 1) ea + cnt (d + 1) eb else 1 + cnt (d + 1) ea) := Lib.hid (by conv => lhs; unfold cnt; rw [if_neg (by omega)])
    have ca := cnt_le ea (d + 1) (by omega)
    have cb := cnt_le eb (d + 1) (by omega)
    have hbM : bl < W.heap.size := by omega
    have CA : Hid (∀ v, Below W.heap.size W v → Calls Tryd.prog 10 #[.agg #[.int .i64 a1, .int .i64 a2, .int .i64 a3, .int .i64 a4, .slice a5 a6 a7], .int .i64 ((d : Int) + 1)] v (IntRet v (cnt (d + 1) ea))) := Lib.hid (fun v h => iha (d + 1) B a1 a2 a3 a4 a5 a6 a7 v (by omega) (ha.on (h.mono hB)) (by have := h.size; omega))
    have CB : Hid (∀ v, Below W.heap.size W v → Calls Tryd.prog 10 #[.agg #[.int .i64 b1, .int .i64 b2, .int .i64 b3, .int .i64 b4, .slice b5 b6 b7], .int .i64 ((d : Int) + 1)] v (IntRet v (cnt (d + 1) eb))) := Lib.hid (fun v h => ihb (d + 1) B b1 b2 b3 b4 b5 b6 b7 v (by omega) (hb.on (h.mono hB)) (by have := h.size; omega))
    have FA : Hid (∀ v, Below W.heap.size W v → v.cell? ⟨bl, off, none⟩ = some (.int .i64 a1) ∧ v.cell? ⟨bl, off + 1, none⟩ = some (.int .i64 a2) ∧ v.cell? ⟨bl, off + 2, none⟩ = some (.int .i64 a3) ∧ v.cell? ⟨bl, off + 3, none⟩ = some (.int .i64 a4) ∧ v.cell? ⟨bl, off + 4, none⟩ = some (.slice a5 a6 a7)) := Lib.hid (fun v h =>
      have cl := fun {q : Nat} {u : Value} (h9 : W.cell? ⟨bl, q, none⟩ = some u) => (h.cell (p := ⟨bl, q, none⟩) hbM).trans h9
      ⟨cl (fa 0 _ rfl), cl (fa 1 _ rfl), cl (fa 2 _ rfl), cl (fa 3 _ rfl), cl (fa 4 _ rfl)⟩)
    have FB : Hid (∀ v, Below W.heap.size W v → v.cell? ⟨bl, off + 5, none⟩ = some (.int .i64 b1) ∧ v.cell? ⟨bl, off + 5 + 1, none⟩ = some (.int .i64 b2) ∧ v.cell? ⟨bl, off + 5 + 2, none⟩ = some (.int .i64 b3) ∧ v.cell? ⟨bl, off + 5 + 3, none⟩ = some (.int .i64 b4) ∧ v.cell? ⟨bl, off + 5 + 4, none⟩ = some (.slice b5 b6 b7)) := Lib.hid (fun v h =>
      have cl := fun {q : Nat} {u : Value} (h9 : W.cell? ⟨bl, q, none⟩ = some u) => (h.cell (p := ⟨bl, q, none⟩) hbM).trans h9
      ⟨cl (fb 0 _ rfl), cl (fb 1 _ rfl), cl (fb 2 _ rfl), cl (fb 3 _ rfl), cl (fb 4 _ rfl)⟩)
    clear fa fb ha hb iha ihb hlen hadr
    generalize cnt (d + 1) ea = na at *
    generalize cnt (d + 1) eb = nb at *
    obtain ⟨M, hM⟩ : ∃ M, W.heap.size = M := ⟨_, rfl⟩
    have HM := Lib.hid hM
    have B1 : Hid (Below M W (W.alloc (.cells #[.int .i64 K, .int .i64 N, .int .i64 G, .int .i64 O, .slice (some ⟨bl, off, none⟩) len cap] 38))) := Lib.hid (by rw [← hM]; exact (Below.refl W.heap.size W).alloc (Nat.le_refl _) _)
    have Y1 : Hid ((W.alloc (.cells #[.int .i64 K, .int .i64 N, .int .i64 G, .int .i64 O, .slice (some ⟨bl, off, none⟩) len cap] 38)).heap[M]? = some (.cells #[.int .i64 K, .int .i64 N, .int .i64 G, .int .i64 O, .slice (some ⟨bl, off, none⟩) len cap] 38 (0, 0))) := Lib.hid (by rw [← hM]; exact box5 W (.int .i64 K) (.int .i64 N) (.int .i64 G) (.int .i64 O) (.slice (some ⟨bl, off, none⟩) len cap) 38)
    have S1 : Hid (M < (W.alloc (.cells #[.int .i64 K, .int .i64 N, .int .i64 G, .int .i64 O, .slice (some ⟨bl, off, none⟩) len cap] 38)).heap.size) := Lib.hid (by simp [hM])
    clear hM
    have MX := HM.out
    rw [MX] at FA FB CA CB
    have i0 : (0 : Int) < (len : Int) := by omega
    have i1 : (1 : Int) < (len : Int) := by omega
    have i0n : 0 < len := by omega
    have i1n : 1 < len := by omega
    have j0 : decide ((0 : Int) < (len : Int)) = true := decide_eq_true i0
    have j1 : decide ((1 : Int) < (len : Int)) = true := decide_eq_true i1
    have j2 : decide (0 < len) = true := decide_eq_true i0n
    have j3 : decide (1 < len) = true := decide_eq_true i1n
    by_cases hx : 1 + na < 100
    · rw [if_pos hx] at CF
      have x1 : decide ((1 : Int) + (na : Int) < 100) = true := decide_eq_true (by omega)
      have x2 : decide (((1 + na : Nat) : Int) < 100) = true := decide_eq_true (by omega)
      go_enter Tryd.func10, Tryd.ntmps10
      go_wp2_with fail
      go_loopw [5, 6] (fun v i wr => ∃ k : Nat, k ≤ 2 ∧ i = .int .i64 k ∧ v = .int .i64 ((if k = 0 then 1 else if k = 1 then 1 + na else 1 + na + nb : Nat) : Int) ∧ Hid (Below M W wr) ∧ Hid (wr.heap[M]? = some (.cells #[.int .i64 K, .int .i64 N, .int .i64 G, .int .i64 O, .slice (some ⟨bl, off, none⟩) len cap] 38 (0, 0))) ∧ Hid (M < wr.heap.size)) (fun _ i _ => 2 - (intOf i).toNat)
      case atStart => exact ⟨0, Nat.zero_le _, rfl, rfl, B1, Y1, S1⟩
      case round =>
        obtain ⟨k, hk, rfl, rfl, HB, HY, HS⟩ := hrel
        obtain ⟨c0, c1, c2, c3, c4⟩ := cells5 HY.out
        by_cases h0 : k = 0
        · subst h0
          rw [if_pos rfl]
          obtain ⟨f0, f1, f2, f3, f4⟩ := FA.out wr HB.out
          go_wp2_with fail
          refine (CA.out wr HB.out).mono ?_
          rintro e w2 ⟨rfl, hb2⟩
          have B2 : Hid (Below M W w2) := Lib.hid (HB.out.trans (hb2.mono (Nat.le_of_lt HS.out)))
          have Y2 : Hid (w2.heap[M]? = _) := Lib.hid ((hb2.block M HS.out).trans HY.out)
          have S2 : Hid (M < w2.heap.size) := Lib.hid (Nat.lt_of_lt_of_le HS.out hb2.size)
          clear hb2 c0 c1 c2 c3 c4 f0 f1 f2 f3 f4
          go_wp2_with fail
          go_roundw
          case rel => exact ⟨1, by omega, by go_num, by rw [if_neg (by omega), if_pos rfl]; go_num, B2, Y2, S2⟩
          case measure => simp [intOf]
        by_cases h1 : k = 1
        · subst h1
          rw [if_neg (by omega), if_pos rfl]
          obtain ⟨f0, f1, f2, f3, f4⟩ := FB.out wr HB.out
          go_wp2_with fail
          refine (CB.out wr HB.out).mono ?_
          rintro e w2 ⟨rfl, hb2⟩
          have B2 : Hid (Below M W w2) := Lib.hid (HB.out.trans (hb2.mono (Nat.le_of_lt HS.out)))
          have Y2 : Hid (w2.heap[M]? = _) := Lib.hid ((hb2.block M HS.out).trans HY.out)
          have S2 : Hid (M < w2.heap.size) := Lib.hid (Nat.lt_of_lt_of_le HS.out hb2.size)
          clear hb2 c0 c1 c2 c3 c4 f0 f1 f2 f3 f4
          go_wp2_with fail
          go_roundw
          case rel => exact ⟨2, by omega, by go_num, by rw [if_neg (by omega), if_neg (by omega)]; go_num, B2, Y2, S2⟩
          case measure => simp [intOf]
        · obtain rfl : k = 2 := by omega
          rw [if_neg (by omega), if_neg (by omega)]
          by_cases hl2 : (2 : Int) < (len : Int)
          · have y1 : decide ((2 : Int) < (len : Int)) = true := decide_eq_true hl2
            have y2 : decide (2 < len) = true := decide_eq_true (by omega)
            go_wp2_with fail
            go_ret
            exact ⟨by rw [CF.out]; rfl, by rw [HM.out]; exact HB.out⟩
          · have y1 : decide ((2 : Int) < (len : Int)) = false := decide_eq_false hl2
            have y2 : decide (2 < len) = false := decide_eq_false (by omega)
            go_wp2_with fail
            go_ret
            exact ⟨by rw [CF.out]; rfl, by rw [HM.out]; exact HB.out⟩
    · rw [if_neg hx] at CF
      have x1 : decide ((1 : Int) + (na : Int) < 100) = false := decide_eq_false (by omega)
      have x2 : decide (((1 + na : Nat) : Int) < 100) = false := decide_eq_false (by omega)
      go_enter Tryd.func10, Tryd.ntmps10
      go_wp2_with fail
      go_loopw [5, 6] (fun v i wr => ∃ k : Nat, k ≤ 1 ∧ i = .int .i64 k ∧ v = .int .i64 ((if k = 0 then 1 else 1 + na : Nat) : Int) ∧ Hid (Below M W wr) ∧ Hid (wr.heap[M]? = some (.cells #[.int .i64 K, .int .i64 N, .int .i64 G, .int .i64 O, .slice (some ⟨bl, off, none⟩) len cap] 38 (0, 0))) ∧ Hid (M < wr.heap.size)) (fun _ i _ => 1 - (intOf i).toNat)
      case atStart => exact ⟨0, Nat.zero_le _, rfl, rfl, B1, Y1, S1⟩
      case round =>
        obtain ⟨k, hk, rfl, rfl, HB, HY, HS⟩ := hrel
        obtain ⟨c0, c1, c2, c3, c4⟩ := cells5 HY.out
        by_cases h0 : k = 0
        · subst h0
          rw [if_pos rfl]
          obtain ⟨f0, f1, f2, f3, f4⟩ := FA.out wr HB.out
          go_wp2_with fail
          refine (CA.out wr HB.out).mono ?_
          rintro e w2 ⟨rfl, hb2⟩
          have B2 : Hid (Below M W w2) := Lib.hid (HB.out.trans (hb2.mono (Nat.le_of_lt HS.out)))
          have Y2 : Hid (w2.heap[M]? = _) := Lib.hid ((hb2.block M HS.out).trans HY.out)
          have S2 : Hid (M < w2.heap.size) := Lib.hid (Nat.lt_of_lt_of_le HS.out hb2.size)
          clear hb2 c0 c1 c2 c3 c4 f0 f1 f2 f3 f4
          go_wp2_with fail
          go_roundw
          case rel => exact ⟨1, by omega, by go_num, by rw [if_neg (by omega)]; go_num, B2, Y2, S2⟩
          case measure => simp [intOf]
        · obtain rfl : k = 1 := by omega
          rw [if_neg (by omega)]
          go_wp2_with fail
          go_ret
          exact ⟨by rw [CF.out]; rfl, by rw [HM.out]; exact HB.out⟩
theorem cnt_all : ∀ e : ET, CntAt e
  | .none K N G O => cnt_none K N G O
  | .one K N G O k => cnt_one K N G O k (cnt_all k)
  | .two K N G O a b => cnt_two K N G O a b (cnt_all a) (cnt_all b)
end Go.Proofs.YtaglbeokecbihaaDoor
