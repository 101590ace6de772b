/- How many parts an expression that came in has (E.Count). -/
import Derived.Test.YtaglbeokecbihaaDoorSy9
namespace Go.Proofs.YtaglbeokecbihaaDoor
open Go.RowKit
set_option linter.unusedVariables false
set_option linter.unusedSimpArgs false

def cnt (d : Nat) : ET → Nat
  | .none _ _ _ _ => if 6 < d then 100 else 1
  | .one _ _ _ _ k => if 6 < d then 100 else 1 + cnt (d + 1) k
  | .two _ _ _ _ a b => if 6 < d then 100 else if 1 + cnt (d + 1) a < 100 then 1 + cnt (d + 1) a + cnt (d + 1) b else 1 + cnt (d + 1) a
theorem cnt_le : ∀ (e : ET) (d : Nat), d ≤ 7 → cnt d e ≤ 100 * (8 - d)
  | .none _ _ _ _, d, h => by unfold cnt; split <;> omega
  | .one _ _ _ _ k, d, h => by
    unfold cnt
    by_cases h1 : 6 < d
    · rw [if_pos h1]; omega
    · rw [if_neg h1]; have := cnt_le k (d + 1) (by omega); omega
  | .two _ _ _ _ a b, d, h => by
    unfold cnt
    by_cases h1 : 6 < d
    · rw [if_pos h1]; omega
    · rw [if_neg h1]
      have ha := cnt_le a (d + 1) (by omega)
      have hb := cnt_le b (d + 1) (by omega)
      split <;> omega
theorem cnt_nodes : ∀ (e : ET) (d : Nat), cnt d e ≤ 40 → (xM e).nodes ≤ cnt d e
  | .none _ _ _ _, d, h => by
    unfold cnt at h ⊢
    by_cases h1 : 6 < d
    · rw [if_pos h1] at h; omega
    · rw [if_neg h1]; exact Nat.le_refl _
  | .one _ _ _ _ k, d, h => by
    unfold cnt at h ⊢
    by_cases h1 : 6 < d
    · rw [if_pos h1] at h; omega
    · rw [if_neg h1]; show 1 ≤ _; omega
  | .two _ _ _ _ a b, d, h => by
    unfold cnt at h ⊢
    by_cases h1 : 6 < d
    · rw [if_pos h1] at h; omega
    · rw [if_neg h1] at h ⊢
      by_cases h2 : 1 + cnt (d + 1) a < 100
      · rw [if_pos h2] at h ⊢
        have ha := cnt_nodes a (d + 1) (by omega)
        have hb := cnt_nodes b (d + 1) (by omega)
        show 1 + (xM a).nodes + (xM b).nodes ≤ _
        omega
      · rw [if_neg h2] at h; omega
def IntRet (w : World) (n : Nat) (e : Ending) (w' : World) : Prop := e = .returned (.int .i64 (n : Int)) ∧ Below w.heap.size w w'
def CntAt (e : ET) : Prop := ∀ (d B : Nat) (K N G O : Int) (adr : Option Addr) (len cap : Nat) (W : World), d ≤ 7 → EIn B W e ⟨K, N, G, O, adr, len, cap⟩ → B ≤ W.heap.size → Calls Tryd.prog 10 #[.agg #[.int .i64 K, .int .i64 N, .int .i64 G, .int .i64 O, .slice adr len cap], .int .i64 d] W (IntRet W (cnt d e))
set_option maxRecDepth 100000 in
set_option maxHeartbeats 1000000 in
theorem cnt_deep (e : ET) (K N G O : Int) (adr : Option Addr) (len cap : Nat) (W : World) : Calls Tryd.prog 10 #[.agg #[.int .i64 K, .int .i64 N, .int .i64 G, .int .i64 O, .slice adr len cap], .int .i64 7] W (IntRet W 100) := by
  have B1 := Lib.hid ((Below.refl W.heap.size W).alloc (Nat.le_refl _) (.cells #[.int .i64 K, .int .i64 N, .int .i64 G, .int .i64 O, .slice adr len cap] 38))
  go_enter Tryd.func10, Tryd.ntmps10
  go_wp2_with fail
  go_ret
  exact ⟨rfl, B1.out⟩
set_option maxRecDepth 100000 in
set_option maxHeartbeats 1000000 in
theorem cnt_none (K0 N0 G0 O0 : Int) : CntAt (.none K0 N0 G0 O0) := by
  intro d B K N G O adr len cap W hd he hB
  by_cases h7 : d = 7
  · subst h7; exact cnt_deep (.none K0 N0 G0 O0) K N G O adr len cap W
  · obtain ⟨⟨e1, e2, e3, e4, hlen⟩, _⟩ := he
    clear e1 e2 e3 e4
    have hlen' : len = 0 := hlen
    subst hlen'
    have td : decide ((6 : Int) < (d : Int)) = false := decide_eq_false (by omega)
    have td2 : decide (6 < d) = false := decide_eq_false (by omega)
    have CF : Hid (cnt d (.none K0 N0 G0 O0) = 1) := Lib.hid (by unfold cnt; rw [if_neg (by omega)])
    obtain ⟨M, hM⟩ : ∃ M, W.heap.size = M := ⟨_, rfl⟩
    have HM := Lib.hid hM
    have B1 : Hid (Below M W (W.alloc (.cells #[.int .i64 K, .int .i64 N, .int .i64 G, .int .i64 O, .slice adr 0 cap] 38))) := Lib.hid (by rw [← hM]; exact (Below.refl W.heap.size W).alloc (Nat.le_refl _) _)
    have Y1 : Hid ((W.alloc (.cells #[.int .i64 K, .int .i64 N, .int .i64 G, .int .i64 O, .slice adr 0 cap] 38)).heap[M]? = some (.cells #[.int .i64 K, .int .i64 N, .int .i64 G, .int .i64 O, .slice adr 0 cap] 38 (0, 0))) := Lib.hid (by rw [← hM]; exact box5 W (.int .i64 K) (.int .i64 N) (.int .i64 G) (.int .i64 O) (.slice adr 0 cap) 38)
    have S1 : Hid (M < (W.alloc (.cells #[.int .i64 K, .int .i64 N, .int .i64 G, .int .i64 O, .slice adr 0 cap] 38)).heap.size) := Lib.hid (by simp [hM])
    clear hM
    have MX := HM.out
    go_enter Tryd.func10, Tryd.ntmps10
    go_wp2_with fail
    go_loopw [5, 6] (fun v i wr => ∃ k : Nat, k ≤ 0 ∧ i = .int .i64 k ∧ v = .int .i64 1 ∧ Hid (Below M W wr) ∧ Hid (wr.heap[M]? = some (.cells #[.int .i64 K, .int .i64 N, .int .i64 G, .int .i64 O, .slice adr 0 cap] 38 (0, 0))) ∧ Hid (M < wr.heap.size)) (fun _ i _ => 0 - (intOf i).toNat)
    case atStart => exact ⟨0, Nat.le_refl _, rfl, rfl, B1, Y1, S1⟩
    case round =>
      obtain ⟨k, hk, rfl, rfl, HB, HY, HS⟩ := hrel
      obtain rfl : k = 0 := by omega
      obtain ⟨c0, c1, c2, c3, c4⟩ := cells5 HY.out
      go_wp2_with fail
      go_ret
      exact ⟨by rw [CF.out]; rfl, by rw [HM.out]; exact HB.out⟩
set_option maxRecDepth 100000 in
set_option maxHeartbeats 1000000 in
theorem cnt_one (K0 N0 G0 O0 : Int) (e : ET) (ih : CntAt e) : CntAt (.one K0 N0 G0 O0 e) := by
  intro d B K N G O adr len cap W hd he hB
  by_cases h7 : d = 7
  · subst h7; exact cnt_deep (.one K0 N0 G0 O0 e) K N G O adr len cap W
  · obtain ⟨⟨e1, e2, e3, e4, hlen⟩, _, bl, off, va, hadr, hbl, hc, hk⟩ := he
    clear e1 e2 e3 e4
    have hlen' : len = 1 := hlen
    have hadr' : adr = some ⟨bl, off, none⟩ := hadr
    subst hlen' hadr'
    obtain ⟨a1, a2, a3, a4, a5, a6, a7⟩ := va
    have td : decide ((6 : Int) < (d : Int)) = false := decide_eq_false (by omega)
    have td2 : decide (6 < d) = false := decide_eq_false (by omega)
    have wd : IntKind.i64.wrap ((d : Int) + 1) = ((d + 1 : Nat) : Int) := by rw [IntKind.wrap_i64]; omega
    have CF : Hid (cnt d (.one K0 N0 G0 O0 e) = 1 + cnt (d + 1) e) := Lib.hid (by conv => lhs; unfold cnt; rw [if_neg (by omega)])
    have cb := cnt_le e (d + 1) (by omega)
    have hbM : bl < W.heap.size := by omega
    have CC : Hid (∀ v, Below W.heap.size W v → Calls Tryd.prog 10 #[.agg #[.int .i64 a1, .int .i64 a2, .int .i64 a3, .int .i64 a4, .slice a5 a6 a7], .int .i64 ((d : Int) + 1)] v (IntRet v (cnt (d + 1) e))) := Lib.hid (fun v h => ih (d + 1) B a1 a2 a3 a4 a5 a6 a7 v (by omega) (hk.on (h.mono hB)) (by have := h.size; omega))
    have FF : Hid (∀ v, Below W.heap.size W v → v.cell? ⟨bl, off, none⟩ = some (.int .i64 a1) ∧ v.cell? ⟨bl, off + 1, none⟩ = some (.int .i64 a2) ∧ v.cell? ⟨bl, off + 2, none⟩ = some (.int .i64 a3) ∧ v.cell? ⟨bl, off + 3, none⟩ = some (.int .i64 a4) ∧ v.cell? ⟨bl, off + 4, none⟩ = some (.slice a5 a6 a7)) := Lib.hid (fun v h =>
      have cl := fun {q : Nat} {u : Value} (h9 : W.cell? ⟨bl, q, none⟩ = some u) => (h.cell (p := ⟨bl, q, none⟩) hbM).trans h9
      ⟨cl (hc 0 _ rfl), cl (hc 1 _ rfl), cl (hc 2 _ rfl), cl (hc 3 _ rfl), cl (hc 4 _ rfl)⟩)
    clear hc hk ih hlen hadr
    generalize cnt (d + 1) e = n1 at *
    obtain ⟨M, hM⟩ : ∃ M, W.heap.size = M := ⟨_, rfl⟩
    have HM := Lib.hid hM
    have B1 : Hid (Below M W (W.alloc (.cells #[.int .i64 K, .int .i64 N, .int .i64 G, .int .i64 O, .slice (some ⟨bl, off, none⟩) 1 cap] 38))) := Lib.hid (by rw [← hM]; exact (Below.refl W.heap.size W).alloc (Nat.le_refl _) _)
    have Y1 : Hid ((W.alloc (.cells #[.int .i64 K, .int .i64 N, .int .i64 G, .int .i64 O, .slice (some ⟨bl, off, none⟩) 1 cap] 38)).heap[M]? = some (.cells #[.int .i64 K, .int .i64 N, .int .i64 G, .int .i64 O, .slice (some ⟨bl, off, none⟩) 1 cap] 38 (0, 0))) := Lib.hid (by rw [← hM]; exact box5 W (.int .i64 K) (.int .i64 N) (.int .i64 G) (.int .i64 O) (.slice (some ⟨bl, off, none⟩) 1 cap) 38)
    have S1 : Hid (M < (W.alloc (.cells #[.int .i64 K, .int .i64 N, .int .i64 G, .int .i64 O, .slice (some ⟨bl, off, none⟩) 1 cap] 38)).heap.size) := Lib.hid (by simp [hM])
    clear hM
    have MX := HM.out
    rw [MX] at FF CC
    go_enter Tryd.func10, Tryd.ntmps10
    go_wp2_with fail
    go_loopw [5, 6] (fun v i wr => ∃ k : Nat, k ≤ 1 ∧ i = .int .i64 k ∧ v = .int .i64 (if k = 0 then 1 else 1 + n1 : Nat) ∧ Hid (Below M W wr) ∧ Hid (wr.heap[M]? = some (.cells #[.int .i64 K, .int .i64 N, .int .i64 G, .int .i64 O, .slice (some ⟨bl, off, none⟩) 1 cap] 38 (0, 0))) ∧ Hid (M < wr.heap.size)) (fun _ i _ => 1 - (intOf i).toNat)
    case atStart => exact ⟨0, Nat.zero_le _, rfl, rfl, B1, Y1, S1⟩
    case round =>
      obtain ⟨k, hk, rfl, rfl, HB, HY, HS⟩ := hrel
      obtain ⟨c0, c1, c2, c3, c4⟩ := cells5 HY.out
      by_cases h0 : k = 0
      · subst h0
        rw [if_pos rfl]
        obtain ⟨f0, f1, f2, f3, f4⟩ := FF.out wr HB.out
        go_wp2_with fail
        refine (CC.out wr HB.out).mono ?_
        rintro e w2 ⟨rfl, hb2⟩
        have B2 : Hid (Below M W w2) := Lib.hid (HB.out.trans (hb2.mono (Nat.le_of_lt HS.out)))
        have Y2 : Hid (w2.heap[M]? = _) := Lib.hid ((hb2.block M HS.out).trans HY.out)
        have S2 : Hid (M < w2.heap.size) := Lib.hid (Nat.lt_of_lt_of_le HS.out hb2.size)
        clear hb2 c0 c1 c2 c3 c4 f0 f1 f2 f3 f4
        go_wp2_with fail
        go_roundw
        case rel => exact ⟨1, Nat.le_refl _, by go_num, by rw [if_neg (by omega)]; go_num, B2, Y2, S2⟩
        case measure => simp [intOf]
      · obtain rfl : k = 1 := by omega
        rw [if_neg (by omega)]
        go_wp2_with fail
        go_ret
        exact ⟨by rw [CF.out]; rfl, by rw [HM.out]; exact HB.out⟩
end Go.Proofs.YtaglbeokecbihaaDoor
