/- Probe, told with the block of its result. Written by mkjn0.py. -/
import Derived.Test.YtcecndjkfdaaaaaDoorIx9
namespace Go.Proofs.YtcecndjkfdaaaaaDoor
open Go.RowKit
set_option linter.unusedVariables false
set_option linter.unusedSimpArgs false

set_option maxRecDepth 100000 in
set_option maxHeartbeats 2000000 in
theorem probeF_calls {w : World} {g : Nat} {K : List RV} {sl nx : List Int} {cnt n M : Nat} (h : IxR w g K sl nx cnt) (hn : ∀ x ∈ K, x.2.1.length = n) (hT : Tab M (homeOf M) (keysC K n) 0 sl nx cnt) (hM : Pow2 M) (ka : Option Addr) (kc : Nat) (κ : List Int) (hκ : Row w ka κ) (hκl : κ.length ≤ 1000000) (hKl : K.length ≤ 1000000) (hn1 : n ≤ 1000000) :
    Calls Tryd.prog 32 #[.pointer (some ⟨g, 0, none⟩), .slice ka κ.length kc] w (FreshRet w (ints (rowsOf (keysC K n) κ))) := by
  by_cases hl : κ.length = K.length
  · obtain ⟨a, hF, cs⟩ := slotOf_is h hn hT hM ka kc κ hκ hl hKl hn1
    have ha : a < M := hF.1
    have CH := Lib.hid (hT.start hF)
    obtain ⟨ca, cc, sa, sc, na, nc, hg, h2, h3, h4⟩ := id h
    obtain ⟨c0, c1, c2, _⟩ := ixCells hg
    have hsl := hT.sll
    have hnl : nx.length = n := by have := hT.nxl; rwa [keysC_len] at this
    obtain ⟨_, hM1, hM2⟩ := maskN hM _ rfl
    obtain ⟨bs, off, rfl, hbs, hc⟩ := h3.at (k := a) (by omega)
    rw [show sl[a]?.getD 0 = at0 sl a from rfl] at hc
    rw [hsl] at c1
    rw [hnl] at c2
    obtain ⟨i1, hi', hz0', hz1', hz2'⟩ := info_parts info3
    have I' := Lib.hid hi'
    have Z0' := Lib.hid hz0'
    have Z1' := Lib.hid hz1'
    have Z2' := Lib.hid hz2'
    clear hi' hz0' hz1' hz2'
    obtain ⟨B, hB⟩ : ∃ B, w.heap.size = B := ⟨_, rfl⟩
    have HB := Lib.hid hB
    have hgl : g < B := by rw [← hB]; exact (Array.getElem?_eq_some_iff.1 hg).1
    have HN := Lib.hid h4
    have HT := Lib.hid hT
    have t0 : ((κ.length : Int) != (K.length : Int)) = false := by simp [hl]
    have t1 : ((M : Int) == 0) = false := beq_eq_false_iff_ne.2 (by omega)
    have q1 : (a : Int) < (M : Int) := by omega
    have q2 : (0 : Int) ≤ (a : Int) := by omega
    have C2 := Lib.hid c2
    have HNL := Lib.hid hnl
    clear h hn hT hM hκ hl hF hg h2 h3 h4 hsl hnl hB
    generalize at0 sl a = s0 at *
    go_enter Tryd.func32, Tryd.ntmps32
    go_wp2_with fail
    go_quiet ((exact Calls.quiet_of (cs _)))
    rename_i qd
    go_wp2_with fail
    clear cs hc
    go_loopw [6, 5] (fun t v wr => ∃ (x : Int) (done : List Nat), t = .int .i64 x ∧ Hid (Chain (keysC K n) κ x done) ∧ Hid (wr.ownsRow B 3 1 v (ints done).length ((ints done).map (Value.int .i64))) ∧ Hid (Below B w wr)) (fun t _ _ => chMes n (intOf t))
    case atStart => exact ⟨s0, [], rfl, CH, Lib.hid (World.ownsRow_nil _ _ _ _), Lib.hid (below_drewN (Below.refl _ _) _)⟩
    case round =>
      obtain ⟨x, done, rfl, HC, HO, HBe⟩ := hrel
      have hBr : B ≤ wr.heap.size := by have := HBe.out.size; rw [HB.out] at this; exact this
      rcases HC.out with ⟨rfl, hd⟩ | ⟨i, rfl, hin, hk, hd⟩
      · have hfin := HO.out
        rw [hd] at hfin
        obtain ⟨a9, c9, ha9, hrow, hcp, hfr⟩ := fresh_of_owns hfin
        rw [ha9]
        have HRw := Lib.hid hrow
        have HCp := Lib.hid hcp
        have HFr := Lib.hid hfr
        clear hfin hrow ha9 hd hcp hfr
        go_wp2_with fail
        go_ret
        exact ⟨a9, c9, rfl, HRw.out, HCp.out, by rw [HB.out]; exact HFr.out, by rw [HB.out]; exact HBe.out⟩
      · rw [keysC_len] at hin
        have CN := Lib.hid (HT.out.step (by rw [keysC_len]; exact hin) hk)
        have hdl : (ints done).length ≤ 1000000 := by rw [ints_len]; have := HC.out.le; rw [keysC_len] at this; omega
        have HD : Hid (rowsTo (keysC K n) κ i ++ [i] = done ++ [i]) := Lib.hid (by rw [hd])
        rw [HD.out] at CN
        have IA : Hid (ints (done ++ [i]) = ints done ++ [(i : Int)]) := Lib.hid (by rw [ints_append]; rfl)
        have hnx : i < nx.length := by rw [HNL.out]; exact hin
        obtain ⟨b3, off3, rfl, hb3, hc3⟩ := (HN.out.belowB HB.out HBe.out).at hnx
        rw [show nx[i]?.getD 0 = at0 nx i from rfl] at hc3
        have lt3 : Hid (b3 < wr.heap.size) := Lib.hid hb3
        have c2' : wr.cell? ⟨g, 2, none⟩ = some (.slice (some ⟨b3, off3, none⟩) n nc) := (HBe.out.cell (p := ⟨g, 2, none⟩) hgl).trans C2.out
        have hn3 : b3 < B ∧ g < wr.heap.size := ⟨by
          have := HN.out.lt (by omega) _ rfl
          rw [HB.out] at this; exact this, by omega⟩
        have NB : Hid (b3 < B ∧ g < B) := Lib.hid ⟨hn3.1, hgl⟩
        have t3 : decide ((0 : Int) < (i : Int) + 1) = true := decide_eq_true (by omega)
        have MS : Hid (at0 nx i = 0 ∨ (i : Int) + 1 < at0 nx i ∧ at0 nx i ≤ n) := Lib.hid (by
          rcases HT.out.next i (Nat.zero_le _) (by rw [keysC_len]; exact hin) with h | ⟨i', h1, h2, h3, _⟩
          · exact .inl h.1
          · rw [keysC_len] at h3; exact .inr (by omega))
        generalize ints done = D at *
        generalize at0 nx i = y at *
        clear hd hk hn3 hnx hb3
        go_wp2_with (first | (at_builtin; refine wpList_append_own _ rfl _ _ 33 rfl B 3 i1 (.int .i64 0) 1 8 Tryd.underlying33 I'.out Z0'.out Z1'.out Z2'.out rfl (by decide) _ _ _ rfl (HO.out.alloc _) ⟨wr.heap.size, 0, none⟩ 1 1 [.int .i64 i] rfl rfl ?c1 ?c2 ?c3 ?c4 ?c5 ?_))
        case c1 => exact cell_one_new wr _ _
        case c2 => intro u hu; simp at hu; subst hu; rfl
        case c3 => unfold maxLen; omega
        case c4 => omega
        case c5 => simp; omega
        intro v' w2 hown' hgrow _
        have R := app_step hBr HBe.out HO.out hown' hgrow
        have O2 := Lib.hid R.1
        have B2 := Lib.hid R.2
        have K2 : Below B wr w2 := ((Below.refl B wr).alloc hBr _).grown hgrow (by simp; omega) (fun k hk => (HO.out.lt k hk).1)
        have c2'' : w2.cell? ⟨g, 2, none⟩ = some (.slice (some ⟨b3, off3, none⟩) n nc) := (K2.cell (p := ⟨g, 2, none⟩) NB.out.2).trans c2'
        have hc3' : w2.cell? ⟨b3, off3 + i, none⟩ = some (.int .i64 y) := (K2.cell (p := ⟨b3, off3 + i, none⟩) NB.out.1).trans hc3
        rw [← IA.out] at O2
        clear hown' hgrow R hc3 c2' K2
        go_wp2_with fail
        go_roundw
        case rel => exact ⟨y, done ++ [i], rfl, CN, O2, B2⟩
        case measure =>
          have := MS.out
          show chMes n y < chMes n ((i : Int) + 1)
          unfold chMes
          rw [if_neg (show ¬ ((i : Int) + 1 = 0) by omega)]
          by_cases hy : y = 0
          · rw [if_pos hy]; omega
          · rw [if_neg hy]; omega
  · have E : Hid (rowsOf (keysC K n) κ = []) := Lib.hid (rowsOf_nil hl)
    obtain ⟨ca, cc, sa, sc, na, nc, hg, h2, h3, h4⟩ := h
    obtain ⟨c0, c1, c2, _⟩ := ixCells hg
    have t0 : ((κ.length : Int) != (K.length : Int)) = true := by simp; omega
    clear hg h2 h3 h4 hn hT hκ hM
    go_enter Tryd.func32, Tryd.ntmps32
    go_wp2_with fail
    go_ret
    rw [E.out]
    exact ⟨none, 0, rfl, .inl rfl, Nat.le_refl _, (fun p hp => by cases hp), Below.refl _ _⟩
theorem ix_probeF {w : World} {g : Nat} {kys : List (List Int)} (h : Ix w g kys) (ka : Option Addr) (kc : Nat) (κ : List Int) (hκ : Row w ka κ) (hκl : κ.length ≤ 1000000) :
    Calls Tryd.prog 32 #[.pointer (some ⟨g, 0, none⟩), .slice ka κ.length kc] w (FreshRet w (ints (rowsOf kys κ))) := by
  obtain ⟨K, sl, nx, cnt, M, n, h1, h2, h3, h4, h5, h6, h7⟩ := h
  have := probeF_calls h1 h2 h3 h4 ka kc κ hκ hκl (by omega) (by omega)
  rw [h5] at this; exact this
end Go.Proofs.YtcecndjkfdaaaaaDoor
