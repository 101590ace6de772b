/- Rules as they came in; Few. Written by mkszf.py. -/
import Derived.Test.YtaglbeokecbihaaDoorSzP
namespace Go.Proofs.YtaglbeokecbihaaDoor
open Go.RowKit
set_option linter.unusedVariables false
set_option linter.unusedSimpArgs false

/-- A rule as it came in. -/
structure RT where
  hd : Int
  T : List TV
  agg : Int
  body : List PT
def RC (B : Nat) (w : World) (r : RT) (cs : List Value) : Prop := ∃ (a : Option Addr) (c : Nat) (b : Option Addr) (d : Nat), cs = [.int .i64 r.hd, .slice a r.T.length c, .int .i64 r.agg, .slice b r.body.length d] ∧ TIn B w a r.T ∧ PIn B w b r.body
theorem RC.on {B : Nat} {w w' : World} {r : RT} {cs : List Value} (h : RC B w r cs) (hb : Below B w w') : RC B w' r cs := by
  obtain ⟨a, c, b, d, h1, h2, h3⟩ := h
  exact ⟨a, c, b, d, h1, h2.on hb, h3.on hb⟩
def raAt (l : List RT) (i : Nat) : RT := l[i]?.getD ⟨0, [], 0, []⟩
theorem raAt_mem {l : List RT} {i : Nat} (h : i < l.length) : raAt l i ∈ l := by simp only [raAt, List.getElem?_eq_getElem h, Option.getD_some]; exact List.getElem_mem h
def RIn (B : Nat) (w : World) (a : Option Addr) (rs : List RT) : Prop := rs = [] ∨ ∃ b off, a = some ⟨b, off, none⟩ ∧ b < B ∧ ∀ i, i < rs.length → ∃ cs, RC B w (raAt rs i) cs ∧ ∀ j u, cs[j]? = some u → w.cell? ⟨b, off + i * 4 + j, none⟩ = some u
theorem RIn.on {B : Nat} {w w' : World} {a : Option Addr} {rs : List RT} (h : RIn B w a rs) (hb : Below B w w') : RIn B w' a rs := by
  rcases h with h0 | ⟨b, off, ha, hlt, hc⟩
  · exact .inl h0
  · refine .inr ⟨b, off, ha, hlt, fun i hi => ?_⟩
    obtain ⟨cs, h1, h2⟩ := hc i hi
    exact ⟨cs, h1.on hb, fun j u hu => (hb.cell (p := ⟨b, _, none⟩) hlt).trans (h2 j u hu)⟩
theorem RIn.at {B : Nat} {w : World} {a : Option Addr} {rs : List RT} (h : RIn B w a rs) {i : Nat} (hi : i < rs.length) : ∃ b off cs, a = some ⟨b, off, none⟩ ∧ b < B ∧ RC B w (raAt rs i) cs ∧ ∀ j u, cs[j]? = some u → w.cell? ⟨b, off + i * 4 + j, none⟩ = some u := by
  rcases h with h0 | ⟨b, off, ha, hlt, hc⟩
  · subst h0; simp at hi
  · obtain ⟨cs, h1, h2⟩ := hc i hi
    exact ⟨b, off, cs, ha, hlt, h1, h2⟩
theorem RIn.mono {B B' : Nat} {w : World} {a : Option Addr} {rs : List RT} (h : RIn B w a rs) (hB : B ≤ B') : RIn B w a rs ∧ True := ⟨h, trivial⟩
def fewR (r : RT) : Prop := r.T.length ≤ 6 ∧ r.body.length ≤ 8 ∧ ∀ p ∈ r.body, fewP p
def few (rs : List RT) : Prop := rs.length ≤ 12 ∧ ∀ r ∈ rs, fewR r
def FewRet (w : World) (rs : List RT) (e : Ending) (w' : World) : Prop := ∃ b : Bool, e = .returned (.bool b) ∧ (b = true ↔ few rs) ∧ Below w.heap.size w w'
theorem all_take {α : Type} {P : α → Prop} {l : List α} {k : Nat} (h : k < l.length) (h1 : ∀ x ∈ l.take k, P x) (h2 : P (l[k]'h)) : ∀ x ∈ l.take (k + 1), P x := by
  intro x hx
  rw [List.take_succ_eq_append_getElem h] at hx
  rcases List.mem_append.1 hx with h3 | h3
  · exact h1 x h3
  · rw [List.mem_singleton.1 h3]; exact h2
theorem raAt_get {l : List RT} {k : Nat} (h : k < l.length) : raAt l k = l[k] := by simp [raAt, h]
theorem paAt_get {l : List PT} {k : Nat} (h : k < l.length) : paAt l k = l[k] := by simp [paAt, h]
set_option maxRecDepth 100000 in
set_option maxHeartbeats 2000000 in
theorem few_calls (a : Option Addr) (rs : List RT) (c B : Nat) (w : World) (hB : B ≤ w.heap.size) (hR : RIn B w a rs) : Calls Tryd.prog 7 #[.slice a rs.length c] w (FewRet w rs) := by
  obtain ⟨M, hM⟩ : ∃ M, w.heap.size = M := ⟨_, rfl⟩
  have HM := Lib.hid hM
  have HR := Lib.hid hR
  have hBM : B ≤ M := by omega
  obtain ⟨n, hn⟩ : ∃ n, rs.length = n := ⟨_, rfl⟩
  have HN := Lib.hid hn
  rw [hn]
  by_cases h12 : n ≤ 12
  · have t0 : decide ((12 : Int) < (n : Int)) = false := decide_eq_false (by omega)
    have t0' : decide (12 < n) = false := decide_eq_false (by omega)
    clear hM hR hn hB
    have MX := HM.out
    go_enter Tryd.func7, Tryd.ntmps7
    go_wp2_with fail
    go_loopw [12] (fun i wr => ∃ k : Nat, k ≤ n ∧ i = .int .i64 k ∧ Hid (∀ r ∈ rs.take k, fewR r) ∧ Hid (Below M w wr)) (fun i _ => n - (intOf i).toNat)
    case atStart => exact ⟨0, Nat.zero_le _, rfl, Lib.hid (by simp), Lib.hid (Below.refl _ _)⟩
    case round =>
      obtain ⟨k, hk, rfl, HA, HW⟩ := hrel
      by_cases hlt : k < n
      · have hlR : k < rs.length := by rw [HN.out]; exact hlt
        obtain ⟨bb, off, cs, hadr, _, hrc, hcell⟩ := (HR.out.on (HW.out.mono hBM)).at hlR
        have RG := Lib.hid (raAt_get hlR)
        have RM := Lib.hid (raAt_mem hlR)
        generalize hr0 : raAt rs k = r at *
        have HR0 := Lib.hid hr0
        clear hr0
        obtain ⟨ta, tc, pa0, pd, rfl, _, hpin⟩ := hrc
        obtain ⟨hd, TT, ag, bd⟩ := r
        simp only at hcell hpin
        obtain ⟨nt, hnt⟩ : ∃ nt, TT.length = nt := ⟨_, rfl⟩
        obtain ⟨nb, hnb⟩ : ∃ nb, bd.length = nb := ⟨_, rfl⟩
        have HNT := Lib.hid hnt
        have HNB := Lib.hid hnb
        rw [hnt, hnb] at hcell
        have f0 : wr.cell? ⟨bb, off + k * 4, none⟩ = some (.int .i64 hd) := hcell 0 _ rfl
        have f1 := hcell 1 _ rfl
        have f2 := hcell 2 _ rfl
        have f3 := hcell 3 _ rfl
        subst hadr
        clear hcell hnt hnb
        have B3 := Lib.hid (HW.out.alloc (by have := HW.out.size; rw [HM.out] at this; exact this) (.cells #[.int .i64 hd, .slice ta nt tc, .int .i64 ag, .slice pa0 nb pd] 67))
        have HP := Lib.hid hpin
        have HWR : Hid (Below wr.heap.size wr (wr.alloc (.cells #[.int .i64 hd, .slice ta nt tc, .int .i64 ag, .slice pa0 nb pd] 67))) := Lib.hid ((Below.refl _ _).alloc (Nat.le_refl _) _)
        have HBW : Hid (B ≤ wr.heap.size) := Lib.hid (by have := HW.out.size; rw [HM.out] at this; omega)
        clear hpin
        by_cases c1 : nt ≤ 6
        · by_cases c2 : nb ≤ 8
          · have t1 : decide ((6 : Int) < (nt : Int)) = false := decide_eq_false (by omega)
            have t1' : decide (6 < nt) = false := decide_eq_false (by omega)
            have t2 : decide ((8 : Int) < (nb : Int)) = false := decide_eq_false (by omega)
            have t2' : decide (8 < nb) = false := decide_eq_false (by omega)
            have HPX := Lib.hid (HP.out.on (HWR.out.mono HBW.out))
            have HC : Hid (nt ≤ 6 ∧ nb ≤ 8) := Lib.hid ⟨c1, c2⟩
            clear c1 HP HWR
            go_wp2_with fail
            generalize World.alloc wr _ = W3 at *
            go_loopw [30] (fun i wr => ∃ j : Nat, j ≤ nb ∧ i = .int .i64 j ∧ Hid (∀ p ∈ bd.take j, fewP p) ∧ Hid (Below M w wr) ∧ Hid (Below W3.heap.size W3 wr)) (fun i _ => nb - (intOf i).toNat)
            case atStart => exact ⟨0, Nat.zero_le _, rfl, Lib.hid (by simp), B3, Lib.hid (Below.refl _ _)⟩
            case round =>
              obtain ⟨j, hj, rfl, HA2, HW2, HW3⟩ := hrel
              obtain ⟨Y, rfl⟩ : ∃ x, x = wr := ⟨wr, rfl⟩
              by_cases hjt : j < nb
              · have hlP : j < bd.length := by rw [HNB.out]; exact hjt
                have hW3s : B ≤ W3.heap.size := by have := B3.out.size; rw [HM.out] at this; omega
                obtain ⟨b2, off2, cs2, hadr2, _, hpc, hcell2⟩ := (HPX.out.on (HW3.out.mono hW3s)).at hlP
                have PG := Lib.hid (paAt_get hlP)
                have PM := Lib.hid (paAt_mem hlP)
                obtain ⟨pa, pc, e1, e2, e3, e4, e5, e6, e7, rfl, _, _, _, he⟩ := hpc
                have CN : Hid (∀ v, Below Y.heap.size Y v → Calls Tryd.prog 10 #[.agg #[.int .i64 e1, .int .i64 e2, .int .i64 e3, .int .i64 e4, .slice e5 e6 e7], .int .i64 0] v (IntRet v (cnt 0 (paAt bd j).e))) := Lib.hid (fun v h => cnt_all _ 0 B e1 e2 e3 e4 e5 e6 e7 v (by omega) (he.on (h.mono (by have := HW3.out.size; omega))) (by have := h.size; have := HW3.out.size; omega))
                have cl := cnt_le (paAt bd j).e 0 (by omega)
                have FP : Hid (fewP (paAt bd j) ↔ (paAt bd j).T.length ≤ 6 ∧ cnt 0 (paAt bd j).e ≤ 40) := Lib.hid Iff.rfl
                have fc : Y.cell? ⟨b2, off2 + j * 15, none⟩ = some (.int .i64 (paAt bd j).f) ∧ Y.cell? ⟨b2, off2 + j * 15 + 1, none⟩ = some (.int .i64 (paAt bd j).o) ∧ Y.cell? ⟨b2, off2 + j * 15 + 2, none⟩ = some (.int .i64 (paAt bd j).pn) ∧ Y.cell? ⟨b2, off2 + j * 15 + 3, none⟩ = some (.slice pa (paAt bd j).T.length pc) ∧ Y.cell? ⟨b2, off2 + j * 15 + 4, none⟩ = some (.int .i64 (paAt bd j).x1) ∧ Y.cell? ⟨b2, off2 + j * 15 + 5, none⟩ = some (.int .i64 (paAt bd j).x2) ∧ Y.cell? ⟨b2, off2 + j * 15 + 6, none⟩ = some (.int .i64 (paAt bd j).x3) ∧ Y.cell? ⟨b2, off2 + j * 15 + 7, none⟩ = some (.int .i64 (paAt bd j).y1) ∧ Y.cell? ⟨b2, off2 + j * 15 + 8, none⟩ = some (.int .i64 (paAt bd j).y2) ∧ Y.cell? ⟨b2, off2 + j * 15 + 9, none⟩ = some (.int .i64 (paAt bd j).y3) ∧ Y.cell? ⟨b2, off2 + j * 15 + 10, none⟩ = some (.int .i64 e1) ∧ Y.cell? ⟨b2, off2 + j * 15 + 11, none⟩ = some (.int .i64 e2) ∧ Y.cell? ⟨b2, off2 + j * 15 + 12, none⟩ = some (.int .i64 e3) ∧ Y.cell? ⟨b2, off2 + j * 15 + 13, none⟩ = some (.int .i64 e4) ∧ Y.cell? ⟨b2, off2 + j * 15 + 14, none⟩ = some (.slice e5 e6 e7) := ⟨hcell2 0 _ rfl, hcell2 1 _ rfl, hcell2 2 _ rfl, hcell2 3 _ rfl, hcell2 4 _ rfl, hcell2 5 _ rfl, hcell2 6 _ rfl, hcell2 7 _ rfl, hcell2 8 _ rfl, hcell2 9 _ rfl, hcell2 10 _ rfl, hcell2 11 _ rfl, hcell2 12 _ rfl, hcell2 13 _ rfl, hcell2 14 _ rfl⟩
                generalize paAt bd j = p at *
                obtain ⟨z0, z1, z2, zT, z4, z5, z6, z7, z8, z9, ze⟩ := p
                simp only at fc CN FP cl
                obtain ⟨np, hnp⟩ : ∃ np, zT.length = np := ⟨_, rfl⟩
                rw [hnp] at fc FP
                obtain ⟨f0x, f1x, f2x, f3x, f4x, f5x, f6x, f7x, f8x, f9x, f10x, f11x, f12x, f13x, f14x⟩ := fc
                subst hadr2
                clear hcell2 he hnp
                generalize cnt 0 ze = n1 at *
                have hYM : M ≤ Y.heap.size := by have := HW2.out.size; rw [HM.out] at this; exact this
                have B5 := Lib.hid (HW2.out.alloc hYM (.cells #[.int .i64 z0, .int .i64 z1, .int .i64 z2, .slice pa np pc, .int .i64 z4, .int .i64 z5, .int .i64 z6, .int .i64 z7, .int .i64 z8, .int .i64 z9, .int .i64 e1, .int .i64 e2, .int .i64 e3, .int .i64 e4, .slice e5 e6 e7] 40))
                have BY : Hid (Below Y.heap.size Y (Y.alloc (.cells #[.int .i64 z0, .int .i64 z1, .int .i64 z2, .slice pa np pc, .int .i64 z4, .int .i64 z5, .int .i64 z6, .int .i64 z7, .int .i64 z8, .int .i64 z9, .int .i64 e1, .int .i64 e2, .int .i64 e3, .int .i64 e4, .slice e5 e6 e7] 40))) := Lib.hid ((Below.refl _ _).alloc (Nat.le_refl _) _)
                have HYM : Hid (M ≤ (Y.alloc (.cells #[.int .i64 z0, .int .i64 z1, .int .i64 z2, .slice pa np pc, .int .i64 z4, .int .i64 z5, .int .i64 z6, .int .i64 z7, .int .i64 z8, .int .i64 z9, .int .i64 e1, .int .i64 e2, .int .i64 e3, .int .i64 e4, .slice e5 e6 e7] 40)).heap.size) := Lib.hid (Nat.le_trans hYM BY.out.size)
                have HW3Y : Hid (W3.heap.size ≤ (Y.alloc (.cells #[.int .i64 z0, .int .i64 z1, .int .i64 z2, .slice pa np pc, .int .i64 z4, .int .i64 z5, .int .i64 z6, .int .i64 z7, .int .i64 z8, .int .i64 z9, .int .i64 e1, .int .i64 e2, .int .i64 e3, .int .i64 e4, .slice e5 e6 e7] 40)).heap.size) := Lib.hid (Nat.le_trans HW3.out.size BY.out.size)
                have B6 : Hid (Below W3.heap.size W3 (Y.alloc (.cells #[.int .i64 z0, .int .i64 z1, .int .i64 z2, .slice pa np pc, .int .i64 z4, .int .i64 z5, .int .i64 z6, .int .i64 z7, .int .i64 z8, .int .i64 z9, .int .i64 e1, .int .i64 e2, .int .i64 e3, .int .i64 e4, .slice e5 e6 e7] 40))) := Lib.hid (HW3.out.trans (BY.out.mono HW3.out.size))
                clear hYM hW3s
                by_cases d1 : np ≤ 6
                · have t5 : decide ((6 : Int) < (np : Int)) = false := decide_eq_false (by omega)
                  have t5' : decide (6 < np) = false := decide_eq_false (by omega)
                  by_cases d2 : n1 ≤ 40
                  · have t6 : decide ((40 : Int) < (n1 : Int)) = false := decide_eq_false (by omega)
                    have t6' : decide (40 < n1) = false := decide_eq_false (by omega)
                    have FT : Hid (∀ p ∈ bd.take (j + 1), fewP p) := Lib.hid (all_take hlP HA2.out (by rw [← PG.out]; exact FP.out.2 ⟨d1, d2⟩))
                    clear d1 d2
                    go_wp2_with fail
                    refine (CN.out _ BY.out).mono ?_
                    generalize World.alloc Y _ = Y1 at *
                    rintro e w5 ⟨rfl, hb5⟩
                    have B7 : Hid (Below M w w5) := Lib.hid (B5.out.trans (hb5.mono HYM.out))
                    have B8 : Hid (Below W3.heap.size W3 w5) := Lib.hid (B6.out.trans (hb5.mono HW3Y.out))
                    clear hb5
                    go_wp2_with fail
                    go_roundw
                    case rel => exact ⟨j + 1, by omega, by go_num, FT, B7, B8⟩
                    case measure => simp [intOf]; omega
                  · have t6 : decide ((40 : Int) < (n1 : Int)) = true := decide_eq_true (by omega)
                    have t6' : decide (40 < n1) = true := decide_eq_true (by omega)
                    have NF : Hid (¬ few rs) := Lib.hid (fun hf => by
                      have h9 := (hf.2 _ RM.out).2.2 _ PM.out
                      exact d2 (FP.out.1 h9).2)
                    clear d1 d2
                    go_wp2_with fail
                    refine (CN.out _ BY.out).mono ?_
                    generalize World.alloc Y _ = Y1 at *
                    rintro e w5 ⟨rfl, hb5⟩
                    have B7 : Hid (Below M w w5) := Lib.hid (B5.out.trans (hb5.mono HYM.out))
                    clear hb5
                    go_wp2_with fail
                    go_ret
                    exact ⟨false, rfl, ⟨(fun h => by cases h), (fun h => absurd h NF.out)⟩, by rw [HM.out]; exact B7.out⟩
                · have t5 : decide ((6 : Int) < (np : Int)) = true := decide_eq_true (by omega)
                  have t5' : decide (6 < np) = true := decide_eq_true (by omega)
                  have NF : Hid (¬ few rs) := Lib.hid (fun hf => by
                    have h9 := (hf.2 _ RM.out).2.2 _ PM.out
                    exact d1 (FP.out.1 h9).1)
                  clear d1
                  go_wp2_with fail
                  go_ret
                  exact ⟨false, rfl, ⟨(fun h => by cases h), (fun h => absurd h NF.out)⟩, by rw [HM.out]; exact B5.out⟩
              · obtain rfl : j = nb := by omega
                have FT : Hid (∀ r ∈ rs.take (k + 1), fewR r) := Lib.hid (all_take hlR HA.out (by
                  rw [← RG.out]
                  refine ⟨by rw [HNT.out]; exact HC.out.1, by rw [HNB.out]; exact HC.out.2, fun p hp => HA2.out p (by rw [List.take_of_length_le (by rw [HNB.out]; exact Nat.le_refl _)]; exact hp)⟩))
                go_wp2_with fail
                go_roundw
                case rel => exact ⟨k + 1, by omega, by go_num, FT, HW2⟩
                case measure => simp [intOf]; omega
          · have t1 : decide ((6 : Int) < (nt : Int)) = false := decide_eq_false (by omega)
            have t1' : decide (6 < nt) = false := decide_eq_false (by omega)
            have t2 : decide ((8 : Int) < (nb : Int)) = true := decide_eq_true (by omega)
            have t2' : decide (8 < nb) = true := decide_eq_true (by omega)
            have NF : Hid (¬ few rs) := Lib.hid (fun hf => by
              have h9 := (hf.2 _ RM.out).2.1
              have h8 : bd.length ≤ 8 := h9
              rw [HNB.out] at h8
              exact c2 h8)
            clear c1 c2
            go_wp2_with fail
            go_ret
            exact ⟨false, rfl, ⟨(fun h => by cases h), (fun h => absurd h NF.out)⟩, by rw [HM.out]; exact B3.out⟩
        · have t1 : decide ((6 : Int) < (nt : Int)) = true := decide_eq_true (by omega)
          have t1' : decide (6 < nt) = true := decide_eq_true (by omega)
          have NF : Hid (¬ few rs) := Lib.hid (fun hf => by
            have h9 := (hf.2 _ RM.out).1
            have h8 : TT.length ≤ 6 := h9
            rw [HNT.out] at h8
            exact c1 h8)
          clear c1
          go_wp2_with fail
          go_ret
          exact ⟨false, rfl, ⟨(fun h => by cases h), (fun h => absurd h NF.out)⟩, by rw [HM.out]; exact B3.out⟩
      · obtain rfl : k = n := by omega
        have FT : Hid (few rs) := Lib.hid ⟨by rw [HN.out]; exact h12, fun r hr => HA.out r (by rw [List.take_of_length_le (by rw [HN.out]; exact Nat.le_refl _)]; exact hr)⟩
        go_wp2_with fail
        go_ret
        exact ⟨true, rfl, ⟨fun _ => FT.out, fun _ => rfl⟩, by rw [HM.out]; exact HW.out⟩
  · have t0 : decide ((12 : Int) < (n : Int)) = true := decide_eq_true (by omega)
    have t0' : decide (12 < n) = true := decide_eq_true (by omega)
    have NF : Hid (¬ few rs) := Lib.hid (fun hf => h12 (by rw [← hn]; exact hf.1))
    clear h12 hM hR hn hB
    go_enter Tryd.func7, Tryd.ntmps7
    go_wp2_with fail
    go_ret
    exact ⟨false, rfl, ⟨(fun h => by cases h), (fun h => absurd h NF.out)⟩, Below.refl _ _⟩
end Go.Proofs.YtaglbeokecbihaaDoor
