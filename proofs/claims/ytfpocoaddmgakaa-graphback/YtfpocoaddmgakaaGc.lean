/- The walk of GraphComponents. -/
import Derived.Test.YtfpocoaddmgakaaArg
namespace Go.Proofs.Ytfpocoaddmgakaa
open Go.RowKit
set_option linter.unusedVariables false
set_option linter.unusedSimpArgs false

theorem tot_const (n c : Nat) : tot n (fun _ => c) = n * c := by
  induction n with
  | zero => simp [tot]
  | succ n ih => simp [tot, ih, Nat.succ_mul]
/-- Such a graph has few edges. -/
theorem EG.small {B : Nat} {w wr : World} {n : Nat} {K : List Value} {C : Nat → List Int} (h : EG B w wr n 101 K C) (hn : n ≤ 15) : (PL.rv K C).length = n ∧ (∀ i, i < (PL.rv K C).length → (edgesOf (PL.rv K C) i).length ≤ 101) ∧ tot (PL.rv K C).length (fun v => (edgesOf (PL.rv K C) v).length) ≤ 1000000 := by
  have h1 : (PL.rv K C).length = n := by rw [PL.rvLen, h.len]
  have h2 : ∀ i, i < (PL.rv K C).length → (edgesOf (PL.rv K C) i).length ≤ 101 := fun i hi => by
    rw [PL.rvLen] at hi
    show (atV (PL.rv K C) i).2.1.length ≤ 101
    rw [PL.rvAt hi]; exact h.deg i
  refine ⟨h1, h2, ?_⟩
  have := tot_le (n := (PL.rv K C).length) (g := fun _ => 101) h2
  rw [tot_const, h1] at this
  rw [h1]
  have : n * 101 ≤ 15 * 101 := Nat.mul_le_mul_right _ hn
  omega
theorem CompsOf.lens {n : Nat} {E : Nat → List Int} {M : List RV} (h : CompsOf n E (M.map (·.2.1))) (hn : n ≤ 1000000) : M.length ≤ 1000000 ∧ ∀ x ∈ M, x.2.1.length ≤ 1000000 := by
  obtain ⟨h1, h2⟩ := h.small
  rw [List.length_map] at h1
  exact ⟨by omega, fun x hx => by have := h2 _ (List.mem_map.2 ⟨x, hx, rfl⟩); omega⟩

set_option maxRecDepth 100000 in
set_option maxHeartbeats 4000000 in
theorem comp_walk (x : Int) {len cap : Nat} {a : Option Addr} {zs : List Int} {w : World} (h : IsRow .i64 w a len cap zs) : Calls Try.prog 3 #[.int .i64 x, .slice a len cap] w fun e w' => e = .returned (.bool true) ∧ Below w.heap.size w w' := by
  obtain ⟨ys, rfl, hrow, _, hml⟩ := isRow_row h (fun _ h => bounds_i64 h)
  have c1 := head_calls w
  obtain ⟨n, hn, hmask⟩ := maskB x 4 (by omega) 15 (by decide)
  have hn : n ≤ 15 := by omega
  have HROW := Lib.hid hrow
  clear hrow h
  go_enter Try.func3, Try.ntmps3
  by_cases hl : ys.length ≤ 100
  · have q1 : decide ((100 : Int) < (ys.length : Int)) = false := decide_eq_false (by omega)
    go_upto_region 6 with (first | (go_at_call 7; refine c1.mono ?_; rintro e w1 ⟨rfl, hb1⟩; have HB1 := Lib.hid hb1; clear hb1))
    clear c1
    have ce := edges_calls (w := w1) (cap := cap) (HROW.out.below HB1.out) hn hl
    go_upto_region 7 with (first | (go_at_call 8; refine ce.mono ?_; rintro e w2 ⟨K, C, rfl, hE⟩; have HE := Lib.hid hE; clear hE))
    clear ce
    obtain ⟨sm1, sm2, sm3⟩ := HE.out.small hn
    obtain ⟨ea, ec, e9, hrr⟩ := HE.out.pl.rrow
    rw [HE.out.len] at e9
    obtain ⟨rfl, rfl⟩ : some ⟨w1.heap.size, 0, none⟩ = ea ∧ n = ec := by simpa using e9
    have HRR := Lib.hid hrr
    have cc := comps_calls (ec := n) hrr (fun i hi => by have := sm2 i hi; omega) sm3 (by omega)
    have BE2 : Hid (Below w.heap.size w w2) := Lib.hid (HB1.out.trans (HE.out.be.mono HB1.out.size))
    have SM2 := Lib.hid sm2
    generalize PL.rv K C = KR at *
    rw [sm1] at cc
    have SM1 := Lib.hid sm1
    clear sm1 sm2 sm3 e9 hrr HE
    go_wp2_with (first | (go_at_call 10; refine cc.mono ?_; rintro e w3 ⟨a3, p3, M3, rfl, h1, h2, h3⟩; have R3 := Lib.hid h1; have C3 := Lib.hid h2; have B3 := Lib.hid h3; clear h1 h2 h3; have cp := page_calls (ec := n) (HRR.out.below B3.out) (fun i hi => by have := SM2.out i hi; omega) (by rw [SM1.out]; omega); rw [SM1.out] at cp) | (go_at_call 11; refine cp.mono ?_; rintro e w4 ⟨a4, p4, M4, rfl, h1, h2, h3⟩; have R4 := Lib.hid h1; have C4 := Lib.hid h2; have B4 := Lib.hid h3; clear h1 h2 h3; have ci := is_calls (ca := p3) (cb := p4) (R3.out.below B4.out) R4.out (C3.out.lens (by omega)).1 (C4.out.lens (by omega)).1 (C3.out.lens (by omega)).2 (C4.out.lens (by omega)).2) | (go_at_call 9; refine ci.mono ?_; rintro e w5 ⟨rfl, h3⟩; have B5 := Lib.hid h3; clear h3))
    go_ret
    refine ⟨?_, ?_⟩
    · rw [decide_eq_true (show rowsOf M3 = rowsOf M4 from C3.out.unique C4.out)]
      rfl
    · have s2 := BE2.out.size
      have s3 := B3.out.size
      have s4 := B4.out.size
      exact ((BE2.out.trans (B3.out.mono s2)).trans (B4.out.mono (by omega))).trans (B5.out.mono (by omega))
  · have q1 : decide ((100 : Int) < (ys.length : Int)) = true := decide_eq_true (by omega)
    go_wp2_with (first | (go_at_call 7; refine c1.mono ?_; rintro e w1 ⟨rfl, hb1⟩; have HB1 := Lib.hid hb1; clear hb1))
    go_ret
    exact ⟨rfl, HB1.out⟩
end Go.Proofs.Ytfpocoaddmgakaa
