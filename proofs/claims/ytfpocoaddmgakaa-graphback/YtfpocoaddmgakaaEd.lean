/- Contract of Edges: a graph by pairs of numbers. -/
import Derived.Test.YtfpocoaddmgakaaPc
namespace Go.Proofs.Ytfpocoaddmgakaa
open Go.RowKit
attribute [local go_sem ↓] app_rule
set_option linter.unusedVariables false
set_option linter.unusedSimpArgs false

theorem rem_edge (x : Int) {n : Nat} (h0 : 0 < n) (hn : n ≤ 15) : ∃ b : Nat, b < n ∧ wrap64 ((IntKind.u64.wrap x).tmod (n : Int)) = (b : Int) := by
  rw [IntKind.wrap_u64]
  have h1 : 0 ≤ x % 18446744073709551616 := Int.emod_nonneg _ (by omega)
  rw [Int.tmod_eq_emod_of_nonneg h1]
  have h2 := Int.emod_nonneg (x % 18446744073709551616) (show (n : Int) ≠ 0 by omega)
  have h3 := Int.emod_lt_of_pos (x % 18446744073709551616) (show (0 : Int) < (n : Int) by omega)
  refine ⟨(x % 18446744073709551616 % (n : Int)).toNat, by omega, ?_⟩
  unfold wrap64; omega
/-- A graph of n nodes, its rows the call's own. -/
structure EG (B : Nat) (w wr : World) (n k : Nat) (K : List Value) (C : Nat → List Int) : Prop where
  pl : PL B wr (sl B n) K C
  len : K.length = n
  deg : ∀ i, (C i).length ≤ k
  inn : ∀ i x, x ∈ C i → 0 ≤ x ∧ x < (n : Int)
  be : Below B w wr
  sz : B + 1 ≤ wr.heap.size
theorem EG.more {B : Nat} {w wr : World} {n k k' : Nat} {K : List Value} {C : Nat → List Int} (h : EG B w wr n k K C) (hk : k ≤ k') : EG B w wr n k' K C :=
  ⟨h.pl, h.len, fun i => Nat.le_trans (h.deg i) hk, h.inn, h.be, h.sz⟩

set_option maxRecDepth 100000 in
set_option maxHeartbeats 4000000 in
theorem edges_calls {w : World} {n : Nat} {a : Option Addr} {cap : Nat} {ys : List Int} (hrow : Row w a ys) (hn : n ≤ 15) (hl : ys.length ≤ 100) :
    Calls Try.prog 8 #[.int .i64 n, .slice a ys.length cap] w fun e w' => ∃ K C, e = .returned (sl w.heap.size n) ∧ EG w.heap.size w w' n 101 K C := by
  obtain ⟨B, hB⟩ : ∃ B, w.heap.size = B := ⟨_, rfl⟩
  obtain ⟨i1, hi, hz0, hz1, hz2⟩ := info_parts info3
  have I := Lib.hid hi
  have Z0 := Lib.hid hz0
  have Z1 := Lib.hid hz1
  have Z2 := Lib.hid hz2
  obtain ⟨i2, hj, hy0, hy1, hy2⟩ := info_parts info22
  have J := Lib.hid hj
  have Y0 := Lib.hid hy0
  have Y1 := Lib.hid hy1
  have Y2 := Lib.hid hy2
  rw [hB]
  have HBB := Lib.hid hB
  have HROW := Lib.hid hrow
  clear hi hz0 hz1 hz2 hj hy0 hy1 hy2 hrow hB
  go_enter Try.func8, Try.ntmps8
  go_wp2_with (first | (refine wpList_make_row _ rfl _ _ 24 rfl 22 i2 (.slice none 0 0) Try.underlying24 J.out Y0.out Y1.out rfl .i64 .i64 n rfl rfl ?b3 ?b4 ?_))
  case b3 => rw [Y2.out]; omega
  case b4 => omega
  have P0 : Hid (EG B w (w.alloc (.cells (madeCells #[.slice none 0 0] n) 22)) n 0 (List.replicate n (.slice none 0 0)) (fun _ => [])) := Lib.hid ⟨PL.made (by omega) (by unfold maxLen; omega) (by rw [← HBB.out, heap_alloc_new]), by simp, fun i => by simp, fun i x hx => by simp at hx, (Below.refl _ _).alloc (by rw [HBB.out]; exact Nat.le_refl _) _, by simp [HBB.out]⟩
  rw [HBB.out]
  generalize World.alloc w _ = w1 at *
  go_loopw [6, 7] (fun s6 _ wr => ∃ (k : Nat) (K : List Value) (C : Nat → List Int), k ≤ ys.length + 1 ∧ s6 = .int .i64 k ∧ Hid (EG B w wr n k K C)) (fun s6 _ _ => ys.length + 2 - (intOf s6).toNat)
  case atStart => exact ⟨0, _, _, Nat.zero_le _, rfl, P0⟩
  case round =>
    obtain ⟨k, K, C, hk, rfl, HE⟩ := hrel
    clear P0
    by_cases hlt : k + 1 < ys.length
    · have q1 : decide ((k : Int) + 1 < (ys.length : Int)) = true := decide_eq_true (by omega)
      have k0 : (0 : Int) ≤ (k : Int) := by omega
      have k1 : (k : Int) < (ys.length : Int) := by omega
      have k2 : (0 : Int) ≤ (k : Int) + 1 := by omega
      have k3 : (k : Int) + 1 < (ys.length : Int) := by omega
      by_cases hn0 : 0 < n
      · have q2 : decide ((0 : Int) < (n : Int)) = true := decide_eq_true (by omega)
        have hr2 := HROW.out.belowB HBB.out HE.out.be
        obtain ⟨pb, po, rfl, hpb, hpc⟩ := hr2.at (k := k) (by omega)
        obtain ⟨pb2, po2, e2, _, hpd⟩ := hr2.at (k := k + 1) hlt
        obtain ⟨rfl, rfl⟩ : pb = pb2 ∧ po = po2 := by simpa using e2
        obtain ⟨x, hx⟩ : ∃ x, ys[k]?.getD 0 = x := ⟨_, rfl⟩
        obtain ⟨y, hy⟩ : ∃ y, ys[k + 1]?.getD 0 = y := ⟨_, rfl⟩
        rw [hx] at hpc
        rw [hy] at hpd
        clear hr2 e2 hx hy
        obtain ⟨b, hb, eb⟩ := rem_edge x hn0 hn
        obtain ⟨z, hz, ez⟩ := rem_edge y hn0 hn
        have b0 : (0 : Int) ≤ (b : Int) := by omega
        have b1 : (b : Int) < (n : Int) := by omega
        have hbK : b < K.length := by rw [HE.out.len]; exact hb
        obtain ⟨g9, c9, e9, _, hcell, hfr⟩ := HE.out.pl.cellAt hbK
        obtain ⟨rfl, hmK, rfl⟩ : B = g9 ∧ n = K.length ∧ n = c9 := by simpa using e9
        obtain ⟨ra, rc, hrow, hrc⟩ := HE.out.pl.rowForm hbK
        have HOW := Lib.hid (HE.out.pl.own b hbK)
        rw [hrow] at hcell HOW
        have HRO := Lib.hid hrow
        have HLK := Lib.hid HE.out.len
        have hdeg := HE.out.deg b
        have hY1 : B < wr.heap.size := by have := HE.out.sz; omega
        have V1 : ∀ o, (wr.alloc o).cell? ⟨B, b, none⟩ = some (.slice ra (C b).length rc) := fun o => by rw [World.cell?_of_block (a := ⟨B, b, none⟩) (heap_alloc_old wr _ hY1)]; exact hcell
        obtain ⟨v', w5, hrun, hown5, hgrow5, _, hat5⟩ := run_append_own_at (P := Try.prog) (wr.alloc (.cells #[.int .i64 (z : Int)] 3)).drew B 22 22 3 i1 (.int .i64 0) 1 8 Try.underlying22 I.out Z0.out Z1.out Z2.out rfl (by decide) (.slice ra (C b).length rc) _ _ (HOW.out.alloc _) ⟨wr.heap.size, 0, none⟩ 1 1 [.int .i64 (z : Int)] rfl (cell_one_new wr _ _) (by intro u hu; simp at hu; subst hu; rfl) (by unfold maxLen; omega) (by omega) (by simp; omega)
        have hrun' : (appM #[22, 22] 22 #[.slice ra (C b).length rc, .slice (some ⟨wr.heap.size, 0, none⟩) 1 1]).run Try.prog (wr.alloc (.cells #[.int .i64 (z : Int)] 3)).drew = .ok v' w5 := hrun
        have kk : Keeps (fun c => (Value.slice ra (C b).length rc).ownBlock = some c) wr w5 := ((Keeps.refl (fun c => (Value.slice ra (C b).length rc).ownBlock = some c) wr).alloc _).trans (b := wr.alloc (.cells #[.int .i64 (z : Int)] 3)) (c := w5) ⟨hgrow5.os, hgrow5.tape, hgrow5.output, hgrow5.size, fun i hi hn => hgrow5.block i hi (fun e => hn e.symm)⟩
        have hat' : ∀ c, v'.ownBlock = some c → (Value.slice ra (C b).length rc).ownBlock = some c ∨ wr.heap.size ≤ c := fun c hc => by
          rcases hat5 with e | e
          · left; rw [← e]; exact hc
          · right; rw [e] at hc; simp at hc; have : (wr.alloc (.cells #[.int .i64 (z : Int)] 3)).drew.heap.size = wr.heap.size + 1 := by simp [World.drew]
            omega
        have far : ¬ (Value.slice ra (C b).length rc).ownBlock = some B := fun e => HE.out.pl.far b hbK B (by rw [hrow]; exact e) rfl
        have P1 : w5.cell? ⟨B, b, none⟩ = some (.slice ra (C b).length rc) := by rw [World.cell?_of_block (a := ⟨B, b, none⟩) (kk.block B hY1 far)]; exact hcell
        have P2 : w5.frozen? ⟨B, b, none⟩ = false := by rw [World.frozen?_of_block (a := ⟨B, b, none⟩) (kk.block B hY1 far)]; exact hfr
        have G := Lib.hid (HE.out.pl.grow hbK (by omega) hown5 (by rw [hrow]; exact kk) (by rw [hrow]; exact hat'))
        have ownB : ∀ c, (Value.slice ra (C b).length rc).ownBlock = some c → B ≤ c := fun c hc => (HOW.out.lt c hc).1
        have kB : ∀ c, (c = B ∨ (atK K b).ownBlock = some c) → B ≤ c := fun c e => by
          rcases e with e | e
          · omega
          · rw [HRO.out] at e; exact ownB c e
        obtain ⟨qa, qc, rfl⟩ := row_form' hown5
        have NX : Hid (EG B w (w5.setCell ⟨B, b, none⟩ (.slice qa ((C b).length + 1) qc)) n (k + 2) (K.set b (.slice qa ((C b).length + 1) qc)) (fun i => if i = b then C b ++ [(z : Int)] else C i)) := Lib.hid ⟨G.out.1, by rw [List.length_set]; exact HLK.out, fun i => by
            show (if i = b then C b ++ [(z : Int)] else C i).length ≤ k + 2
            by_cases e : i = b
            · rw [if_pos e, List.length_append]; simp; omega
            · rw [if_neg e]; have := HE.out.deg i; omega, fun i u hu => by
            have hu : u ∈ (if i = b then C b ++ [(z : Int)] else C i) := hu
            by_cases e : i = b
            · rw [if_pos e, List.mem_append] at hu
              rcases hu with hu | hu
              · exact HE.out.inn b u hu
              · simp at hu; subst hu; omega
            · rw [if_neg e] at hu; exact HE.out.inn i u hu, HE.out.be.trans (G.out.2.1.below (Nat.le_of_lt hY1) kB), by have := G.out.2.1.size; omega⟩
        clear hrun hgrow5 hat5 hown5 kk hat' far ownB kB G HE HOW e9 hmK hrow hdeg
        go_wp2_with fail
        go_region
        clear hrun' P1 P2 V1 hcell hfr hpc hpd
        go_wp2_with fail
        go_roundw
        case rel => exact ⟨k + 2, _, _, by omega, by go_num, NX⟩
        case measure => simp [intOf]; omega
      · have q2 : decide ((0 : Int) < (n : Int)) = false := decide_eq_false (by omega)
        have RT9 : Hid (EG B w wr n 101 K C) := Lib.hid (HE.out.more (by omega))
        clear HE
        go_wp2_with fail
        go_ret
        exact ⟨_, _, rfl, RT9.out⟩
    · have q1 : decide ((k : Int) + 1 < (ys.length : Int)) = false := decide_eq_false (by omega)
      have RT9 : Hid (EG B w wr n 101 K C) := Lib.hid (HE.out.more (by omega))
      clear HE
      go_wp2_with fail
      go_ret
      exact ⟨_, _, rfl, RT9.out⟩
end Go.Proofs.Ytfpocoaddmgakaa
