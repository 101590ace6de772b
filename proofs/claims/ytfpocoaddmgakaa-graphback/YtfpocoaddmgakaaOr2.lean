/- Contract of order. -/
import Derived.Test.YtfpocoaddmgakaaOr1
namespace Go.Proofs.Ytfpocoaddmgakaa
open Go.RowKit
attribute [local go_sem ↓] app_rule
set_option linter.unusedVariables false
set_option linter.unusedSimpArgs false

def OrdRet (w : World) (KP : List RV) (ES : List (Nat × Nat)) (e : Ending) (w' : World) : Prop :=
  ∃ S a cap, e = .returned (.slice a S.length cap) ∧ RRow w' a (S.map (atV KP)) ∧ Greedy KP.length ES S ∧ (∀ a, ¬ Ready KP.length ES S a) ∧ Below w.heap.size w w'
def sliceN : Value → Nat | .slice _ n _ => n | _ => 0

theorem flat_edge {ES : List (Nat × Nat)} {k : Nat} (h : k < ES.length) : (flat (edgesI ES))[k * 2]? = some (.int .i64 ((ES[k]).1 : Int)) ∧ (flat (edgesI ES))[k * 2 + 1]? = some (.int .i64 ((ES[k]).2 : Int)) := by
  have := flat_at (es := edgesI ES) (i := k) (by simpa [edgesI] using h)
  have e : atE (edgesI ES) k = (((ES[k]).1 : Int), ((ES[k]).2 : Int)) := by simp [atE, edgesI, h]
  rw [e] at this; exact this

set_option maxRecDepth 100000 in
set_option maxHeartbeats 8000000 in
theorem order_calls {w : World} {pa : Option Addr} {pc base : Nat} {KP : List RV} {ev : Value} {ES : List (Nat × Nat)} (hP : RRow w pa KP) (hEV : w.ownsRow base 47 2 ev ES.length (flat (edgesI ES))) (hlt : ∀ e ∈ ES, e.1 < KP.length ∧ e.2 < KP.length) (hEn : ES.length ≤ 1000000) (hn : KP.length ≤ 100000) :
    Calls Try.prog 15 #[.slice pa KP.length pc, ev] w (OrdRet w KP ES) := by
  obtain ⟨i1, hi, hz0, hz1, hz2⟩ := info_parts info3
  have I := Lib.hid hi
  have Z0 := Lib.hid hz0
  have Z1 := Lib.hid hz1
  have Z2 := Lib.hid hz2
  obtain ⟨i2, hj, hy0, hy1, hy2⟩ := info_parts info22
  have J := Lib.hid hj
  have Y0 := Lib.hid hy0
  have Y1 := Lib.hid hy1
  have Y2 := Lib.hid hy2
  obtain ⟨m, hm⟩ : ∃ m, KP.length = m := ⟨_, rfl⟩
  obtain ⟨B, hB⟩ : ∃ B, w.heap.size = B := ⟨_, rfl⟩
  rw [hm] at hn hlt
  rw [hm]
  have HBB := Lib.hid hB
  have HM := Lib.hid hm
  have HP := Lib.hid hP
  have HEV := Lib.hid hEV
  have HLT := Lib.hid hlt
  obtain ⟨va, vc, rfl⟩ := row_form' hEV
  clear hi hz0 hz1 hz2 hj hy0 hy1 hy2 hm hB hP hEV hlt
  go_enter Try.func15, Try.ntmps15
  go_wp2_with (first | (refine wpList_make_row _ rfl _ _ 22 rfl 3 i1 (.int .i64 0) Try.underlying22 I.out Z0.out Z1.out rfl .i64 .i64 m rfl rfl ?b1 ?b2 ?_) | (refine wpList_make_row _ rfl _ _ 24 rfl 22 i2 (.slice none 0 0) Try.underlying24 J.out Y0.out Y1.out rfl .i64 .i64 m rfl rfl ?b3 ?b4 ?_))
  case b1 => rw [Z2.out]; omega
  case b2 => omega
  case b3 => rw [Y2.out]; omega
  case b4 => omega
  have A0 : Hid (O1 B w ((w.alloc (.cells (madeCells #[.int .i64 0] m) 3)).alloc (.cells (madeCells #[.slice none 0 0] m) 22)) m [] (List.replicate m (.slice none 0 0))) := Lib.hid (by
    have e1 : (w.alloc (.cells (madeCells #[.int .i64 0] m) 3)).heap.size = B + 1 := by simp [HBB.out]
    refine ⟨?_, ?_, by simp, ((Below.refl _ _).alloc (by rw [HBB.out]; exact Nat.le_refl _) _).alloc (by rw [e1]; omega) _, by simp [HBB.out]⟩
    · rw [heap_alloc_old _ _ (by rw [e1]; omega), ← HBB.out, heap_alloc_new, madeZ]; rfl
    · refine (PL.made (B := B + 1) (g := B + 1) (Nat.le_refl _) (by unfold maxLen; omega) ?_).congr (fun k _ => rfl)
      rw [← e1, heap_alloc_new])
  have S0 : w.heap.size + 1 = B + 1 := by rw [HBB.out]
  rw [HBB.out]
  generalize World.alloc (World.alloc w _) _ = w1 at *
  clear S0
  go_loopw [24, 8] (fun s24 _ wr => ∃ (k : Nat) (K : List Value), k ≤ ES.length ∧ s24 = .int .i64 k ∧ Hid (O1 B w wr m (ES.take k) K)) (fun s24 _ _ => ES.length - (intOf s24).toNat)
  case atStart => exact ⟨0, _, Nat.zero_le _, rfl, A0⟩
  case round =>
    obtain ⟨k, K, hk, rfl, HA⟩ := hrel
    clear A0
    by_cases hke : k < ES.length
    · have k0 : (0 : Int) ≤ (k : Int) := by omega
      have k1 : (k : Int) < (ES.length : Int) := by omega
      obtain ⟨⟨a, b⟩, hab⟩ : ∃ e, ES[k] = e := ⟨_, rfl⟩
      obtain ⟨ha, hb⟩ := HLT.out (a, b) (by rw [← hab]; exact List.getElem_mem hke)
      dsimp only at ha hb
      have hev2 := owns_keeps HEV.out (Keeps.of_below (N := fun _ => False) (HA.out.be.mono (by rw [HBB.out]; exact Nat.le_refl _))) (fun _ _ h => h)
      obtain ⟨vg, rfl⟩ : ∃ vg, va = some ⟨vg, 0, none⟩ := by
        rcases hev2.2 with ⟨e, h0⟩ | ⟨g, cap, cur, e, _⟩
        · omega
        · cases e; exact ⟨_, rfl⟩
      obtain ⟨fl1, fl2⟩ := flat_edge hke
      rw [hab] at fl1 fl2
      have c1 : wr.cell? ⟨vg, k * 2, none⟩ = some (.int .i64 (a : Int)) := by rw [hev2.cellAt (k * 2) (by omega), fl1]
      have c2 : wr.cell? ⟨vg, k * 2 + 1, none⟩ = some (.int .i64 (b : Int)) := by rw [hev2.cellAt (k * 2 + 1) (by omega), fl2]
      have hneB : ¬ B = wr.heap.size := by have := HA.out.sz; omega
      have c3 : wr.cell? ⟨B, a, none⟩ = some (.int .i64 (cntE (ES.take k) [] a : Int)) := by rw [cell_of_row wr B a _ 3 (0, 0) HA.out.wt, arr_get ha]
      have f3 : wr.frozen? ⟨B, a, none⟩ = false := frozen_of_row wr B a _ _ HA.out.wt
      have hBs : B < wr.heap.size := by have := HA.out.sz; omega
      have hcw := cnt_le (ES.take k) [] a
      simp only [List.length_take] at hcw
      have a0 : (0 : Int) ≤ (a : Int) := by omega
      have a1 : (a : Int) < (m : Int) := by omega
      have b0 : (0 : Int) ≤ (b : Int) := by omega
      have b1 : (b : Int) < (m : Int) := by omega
      have CNT := Lib.hid (HA.out.count a b ha)
      have HAB := Lib.hid hab
      clear hev2 fl1 fl2 hab
      go_wp2_with fail
      obtain ⟨Y, hY, y1, y2, y3, y4, y5, y6, y7⟩ := CNT.out
      rw [← hY]
      have hbK : b < K.length := by rw [HA.out.len]; exact hb
      have HK := Lib.hid HA.out.len
      have hinn : ∀ c, (atK K b).ownBlock = some c → c < wr.heap.size := fun c hc => (HA.out.pl.hasLt (.inr ⟨b, hbK, hc⟩)).2
      clear CNT hY c1 c2 c3 f3 HA
      obtain ⟨g9, c9, e9, _, hcell, hfr⟩ := y2.cellAt hbK
      obtain ⟨rfl, hmK, rfl⟩ : B + 1 = g9 ∧ m = K.length ∧ m = c9 := by simpa using e9
      obtain ⟨ra, rc, hrow, hrc⟩ := y2.rowForm hbK
      have HOW := Lib.hid (y2.own b hbK)
      rw [hrow] at hcell HOW
      have HRO := Lib.hid hrow
      have hul := users_len (ES.take k) b
      simp only [List.length_take] at hul
      have hY1 : B + 1 < Y.heap.size := by omega
      have V1 : ∀ o, (Y.alloc o).cell? ⟨B + 1, b, none⟩ = some (.slice ra (usersI (ES.take k) b).length rc) := fun o => by rw [World.cell?_of_block (a := ⟨B + 1, b, none⟩) (heap_alloc_old Y _ hY1)]; exact hcell
      have V2 : ∀ o, (Y.alloc o).cell? ⟨wr.heap.size, 0, none⟩ = some (.int .i64 (a : Int)) := fun o => by rw [World.cell?_of_block (a := ⟨wr.heap.size, 0, none⟩) (heap_alloc_old Y _ y7)]; exact y5
      have V3 : ∀ o, (Y.alloc o).cell? ⟨wr.heap.size, 1, none⟩ = some (.int .i64 (b : Int)) := fun o => by rw [World.cell?_of_block (a := ⟨wr.heap.size, 1, none⟩) (heap_alloc_old Y _ y7)]; exact y6
      obtain ⟨v', w5, hrun, hown5, hgrow5, _, hat5⟩ := run_append_own_at (P := Try.prog) (Y.alloc (.cells #[.int .i64 (a : Int)] 3)).drew (B + 1) 22 22 3 i1 (.int .i64 0) 1 8 Try.underlying22 I.out Z0.out Z1.out Z2.out rfl (by decide) (.slice ra (usersI (ES.take k) b).length rc) _ _ (HOW.out.alloc _) ⟨Y.heap.size, 0, none⟩ 1 1 [.int .i64 (a : Int)] rfl (cell_one_new Y _ _) (by intro u hu; simp at hu; subst hu; rfl) (by unfold maxLen; omega) (by omega) (by simp; omega)
      have hrun' : (appM #[22, 22] 22 #[.slice ra (usersI (ES.take k) b).length rc, .slice (some ⟨Y.heap.size, 0, none⟩) 1 1]).run Try.prog (Y.alloc (.cells #[.int .i64 (a : Int)] 3)).drew = .ok v' w5 := hrun
      have kk : Keeps (fun c => (Value.slice ra (usersI (ES.take k) b).length rc).ownBlock = some c) Y w5 := ((Keeps.refl (fun c => (Value.slice ra (usersI (ES.take k) b).length rc).ownBlock = some c) Y).alloc _).trans (b := Y.alloc (.cells #[.int .i64 (a : Int)] 3)) (c := w5) ⟨hgrow5.os, hgrow5.tape, hgrow5.output, hgrow5.size, fun i hi hn => hgrow5.block i hi (fun e => hn e.symm)⟩
      have hat' : ∀ c, v'.ownBlock = some c → (Value.slice ra (usersI (ES.take k) b).length rc).ownBlock = some c ∨ Y.heap.size ≤ c := fun c hc => by
        rcases hat5 with e | e
        · left; rw [← e]; exact hc
        · right; rw [e] at hc; simp at hc; have : (Y.alloc (.cells #[.int .i64 (a : Int)] 3)).drew.heap.size = Y.heap.size + 1 := by simp [World.drew]
          omega
      have far : ¬ (Value.slice ra (usersI (ES.take k) b).length rc).ownBlock = some (B + 1) := fun e => y2.far b hbK (B + 1) (by rw [hrow]; exact e) rfl
      have P1 : w5.cell? ⟨B + 1, b, none⟩ = some (.slice ra (usersI (ES.take k) b).length rc) := by rw [World.cell?_of_block (a := ⟨B + 1, b, none⟩) (kk.block (B + 1) hY1 far)]; exact hcell
      have P2 : w5.frozen? ⟨B + 1, b, none⟩ = false := by rw [World.frozen?_of_block (a := ⟨B + 1, b, none⟩) (kk.block (B + 1) hY1 far)]; exact hfr
      have far2 : ¬ (Value.slice ra (usersI (ES.take k) b).length rc).ownBlock = some wr.heap.size := fun e => by rw [← hrow] at e; have := hinn _ e; omega
      have P3 : w5.cell? ⟨wr.heap.size, 0, none⟩ = some (.int .i64 (a : Int)) := by rw [World.cell?_of_block (a := ⟨wr.heap.size, 0, none⟩) (kk.block wr.heap.size y7 far2)]; exact y5
      have P4 : w5.cell? ⟨wr.heap.size, 1, none⟩ = some (.int .i64 (b : Int)) := by rw [World.cell?_of_block (a := ⟨wr.heap.size, 1, none⟩) (kk.block wr.heap.size y7 far2)]; exact y6
      have G := Lib.hid (y2.grow hbK (by omega) hown5 (by rw [hrow]; exact kk) (by rw [hrow]; exact hat'))
      have ownB : ∀ c, (Value.slice ra (usersI (ES.take k) b).length rc).ownBlock = some c → B + 1 ≤ c := fun c hc => (HOW.out.lt c hc).1
      obtain ⟨qa, qc, rfl⟩ := row_form' hown5
      clear hrun hgrow5 hat5 hown5 kk hat' far far2 hinn e9
      go_wp2_with fail
      go_region
      have NX : Hid (O1 B w (w5.setCell ⟨B + 1, b, none⟩ (.slice qa ((usersI (ES.take k) b).length + 1) qc)) m (ES.take (k + 1)) (K.set b (.slice qa ((usersI (ES.take k) b).length + 1) qc))) := Lib.hid (by
        have et : ES.take (k + 1) = ES.take k ++ [(a, b)] := by rw [List.take_succ_eq_append_getElem hke, HAB.out]
        have kN : ∀ c, (c = B + 1 ∨ (atK K b).ownBlock = some c) → B + 1 ≤ c := fun c e => by
          rcases e with e | e
          · omega
          · rw [HRO.out] at e; exact ownB c e
        refine ⟨?_, ?_, by rw [List.length_set]; exact HK.out, ?_, ?_⟩
        · rw [G.out.2.1.block B (by omega) (fun e => by have := kN B e; omega), y1, et]
          exact congrArg (fun f : Nat → Nat => some (Obj.cells (arr m fun x => (f x : Int)) 3 (0, 0))) (cnt_grow (ES := ES.take k) (e := (a, b))).symm
        · rw [et]; exact G.out.1.congr (fun i _ => (users_push (ES := ES.take k) (e := (a, b)) (i := i)).symm)
        · exact y3.trans (G.out.2.1.below (by omega) (fun c e => by have := kN c e; omega))
        · have := G.out.2.1.size; omega)
      clear hrun' P1 P2 P3 P4 V1 V2 V3 y1 y2 y3 y5 y6 hcell hfr hrow ownB G
      go_wp2_with fail
      go_roundw
      case rel => exact ⟨k + 1, _, by omega, by go_num, NX⟩
      case measure => simp [intOf]; omega
    · obtain rfl : k = ES.length := by omega
      have HA1 : Hid (O1 B w wr m ES K) := Lib.hid (by have := HA.out; rw [List.take_length] at this; exact this)
      obtain ⟨D, hD⟩ : ∃ D, wr.heap.size = D := ⟨_, rfl⟩
      have HD := Lib.hid hD
      have N0 := Lib.hid (hs_new (lt := ltL) wr fL)
      have hBD : B + 2 ≤ D := by rw [← hD]; exact HA1.out.sz
      have P0 : Hid (L2 B D wr (wr.alloc (.cells #[fL, .slice none 0 0, .int .i64 0] 57)) m ES 0 none [] 0) := Lib.hid (by
        refine ⟨⟨?_, (Keeps.refl _ wr).alloc _, ?_, World.ownsRow_nil _ _ _ _, Nat.le_refl _, (fun b hb => by cases hb), (fun e => by cases e), (fun b hb => by cases hb), by omega, by simp; omega⟩, fun x => ?_, List.nodup_nil, rfl, Nat.le_refl _⟩
        · rw [heap_alloc_old _ _ (by rw [hD]; omega)]; exact HA1.out.wt
        · rw [← hD]; exact N0.out
        · simp)
      clear HA N0
      go_wp2_with (first | (go_at_call 21; refine (newheap_calls 22 _).mono ?_; rintro e w0 ⟨rfl, rfl⟩))
      clear hD
      obtain ⟨w3, hw3⟩ : ∃ x, x = wr := ⟨wr, rfl⟩
      rw [← hw3] at P0 HA1 HD ⊢
      generalize World.alloc w3 _ = wa at *
      clear hw3
      go_loopw [52, 10] (fun s52 _ wr => ∃ (k : Nat) (own : Option Nat) (bag : List (Int × Int)) (p : Int), k ≤ m ∧ s52 = .int .i64 k ∧ Hid (L2 B D w3 wr m ES k own bag p)) (fun s52 _ _ => m - (intOf s52).toNat)
      case atStart => exact ⟨0, _, _, _, Nat.zero_le _, rfl, P0⟩
      case round =>
        obtain ⟨k, own, bag, p, hk2, rfl, HL⟩ := hrel
        clear P0
        by_cases hkm : k < m
        · have k0 : (0 : Int) ≤ (k : Int) := by omega
          have k1 : (k : Int) < (m : Int) := by omega
          have c5 : wr.cell? ⟨B, k, none⟩ = some (.int .i64 (cntE ES [] k : Int)) := by rw [cell_of_row wr B k _ 3 (0, 0) HL.out.os.wt, arr_get hkm]
          by_cases hz : cntE ES [] k = 0
          · have q1 : (((cntE ES [] k : Nat) : Int) == 0) = true := by rw [hz]; rfl
            have cp := HL.out.push hz (by omega)
            clear hz HL
            go_wp2_with (first | (go_at_call 23; refine cp.mono ?_; rintro e w9 ⟨rfl, own9, bag9, p9, hL9⟩; have HL9 := Lib.hid hL9; clear hL9))
            go_roundw
            case rel => exact ⟨k + 1, _, _, _, by omega, by go_num, HL9⟩
            case measure => simp [intOf]; omega
          · have q1 : (((cntE ES [] k : Nat) : Int) == 0) = false := by rw [beq_eq_false_iff_ne]; omega
            have HL9 := Lib.hid (HL.out.skip hz)
            clear hz HL
            go_wp2_with fail
            go_roundw
            case rel => exact ⟨k + 1, _, _, _, by omega, by go_num, HL9⟩
            case measure => simp [intOf]; omega
        · obtain rfl : k = m := by omega
          have cp := pop_any (KP := KP) (S := []) HL.out.os HL.out.ki hn
          clear HL
          go_wp2_with (first | (go_at_call 24; refine cp.mono ?_; rintro e w9 ⟨s12, s13, rfl, hL9⟩; have HL9 := Lib.hid hL9; clear hL9))
          clear cp
          go_loopw [11, 12, 13, 15] (fun s11 s12 s13 _ wr => Hid (L3 B D w3 KP k ES wr s11 s12 s13)) (fun s11 _ _ _ _ => k + 1 - sliceN s11)
          case atStart => exact HL9
          case round =>
            clear HL9
            obtain ⟨S, own, bag, p, W, hos, hc⟩ := hrel.out
            have hpl : (placed KP S).length = S.length := by simp [placed]
            obtain ⟨la, lc, hla⟩ := row_form' hos.ls
            rw [hpl] at hla
            subst hla
            have HOS := Lib.hid hos
            have HPL := Lib.hid hpl
            have HBEw : Hid (Below B w wr) := Lib.hid (HA1.out.be.trans (hos.kp.below (by have := HA1.out.sz; omega) (fun b e => by
              rcases e with e | e
              · omega
              · omega)))
            clear hrel hpl hos
            rcases hc with ⟨rfl, hki⟩ | ⟨c, rfl, rfl, hkj⟩
            · have RET : Hid (OrdRet w KP ES (.returned (.slice la S.length lc)) wr) := Lib.hid (by
                have ho := HOS.out.ls
                have e0 : placed KP S = (S.map (atV KP)).map encV := by simp [placed]
                rw [e0] at ho
                simp only [List.length_map] at ho
                obtain ⟨a9, c9, e9, hr9⟩ := rrow_of_owns ho (fun x hx => by
                  obtain ⟨c, hc, rfl⟩ := List.mem_map.1 hx
                  have hck := hki.gr.ok.1 c hc
                  have := HP.out.2 _ (atV_mem (by rw [HM.out]; exact hck))
                  exact ⟨this.1.belowB HBB.out HBEw.out, this.2⟩)
                obtain ⟨rfl, rfl⟩ : la = a9 ∧ lc = c9 := by simpa using e9
                exact ⟨S, la, lc, rfl, hr9, by rw [HM.out]; exact hki.gr, by rw [HM.out]; exact hki.stop, by rw [HBB.out]; exact HBEw.out⟩)
              clear hki HOS HBEw
              go_wp2_with fail
              go_ret
              exact RET.out
            · have HKJ := Lib.hid hkj
              have hlen := hkj.len
              have hcm : c < k := hkj.rd.1
              have c0 : (0 : Int) ≤ (c : Int) := by omega
              have c1 : (c : Int) < (k : Int) := by omega
              obtain ⟨pb, po, rfl, hpb, hpc, _, _⟩ := (HP.out.belowB HBB.out HBEw.out).at (k := c) (by rw [HM.out]; exact hcm)
              obtain ⟨x1, hx1⟩ : ∃ x, (atV KP c).1 = x := ⟨_, rfl⟩
              obtain ⟨x2, hx2⟩ : ∃ x, (atV KP c).2.1.length = x := ⟨_, rfl⟩
              obtain ⟨x3, hx3⟩ : ∃ x, (atV KP c).2.2 = x := ⟨_, rfl⟩
              rw [hx1, hx2, hx3] at hpc
              have HX : Hid (placed KP (S ++ [c]) = placed KP S ++ [.slice x1 x2 x3]) := Lib.hid (by rw [← hx1, ← hx2, ← hx3]; simp [placed, encV])
              have hDs := HOS.out.sz
              clear hkj hx1 hx2 hx3
              go_wp2_with (first | (at_builtin; refine wpList_append_own_at _ rfl _ _ 24 rfl D 22 i2 (.slice none 0 0) 1 24 Try.underlying24 J.out Y0.out Y1.out Y2.out rfl (by decide) _ _ _ rfl (HOS.out.ls.alloc _) ⟨wr.heap.size, 0, none⟩ 1 1 [.slice x1 x2 x3] rfl rfl ?d1 ?d2 ?d3 ?d4 ?d5 ?_))
              case d1 => exact cell_one_new wr _ _
              case d2 => intro u hu; simp at hu; subst hu; rfl
              case d3 => rw [HPL.out]; unfold maxLen; omega
              case d4 => rw [HPL.out]; omega
              case d5 => simp; omega
              intro v' w5 hown' hgrow _ hat
              have OS5 := HOS.out.place hown' hgrow (by simpa using hat)
              rw [← HX.out] at OS5
              obtain ⟨qa, qc, hqa⟩ := row_form' hown'
              rw [HPL.out] at hqa
              subst hqa
              have plw := HA1.out.pl.keeps OS5.kp (fun b hb e => by
                have h1 := HA1.out.pl.hasLt hb
                rw [HD.out] at h1
                rcases e with e | e <;> omega)
              have hcK : c < K.length := by rw [HA1.out.len]; exact hcm
              obtain ⟨g9, c9, e9, _, ucell, _⟩ := plw.cellAt hcK
              obtain ⟨rfl, e10, rfl⟩ : B + 1 = g9 ∧ k = K.length ∧ k = c9 := by simpa using e9
              clear e10
              obtain ⟨ra, rc, hrow, _⟩ := plw.rowForm hcK
              rw [hrow] at ucell
              obtain ⟨ra2, rc2, hrow2, hrr⟩ := row_of_owns (plw.own c hcK)
              obtain ⟨rfl, rfl⟩ : ra = ra2 ∧ rc = rc2 := by rw [hrow] at hrow2; simpa using hrow2
              have hraD : ∀ x, ra = some x → x.block < D ∧ B + 1 ≤ x.block := fun x hx => by
                have h1 := HA1.out.pl.hasLt (.inr ⟨c, hcK, by rw [hrow, hx]; rfl⟩)
                rw [HD.out] at h1
                exact ⟨h1.2, h1.1⟩
              have UR : Hid (∀ wv, Keeps (fun b => b = B ∨ D ≤ b) w5 wv → Row wv ra (usersI ES c)) := Lib.hid (fun wv hk => hrr.keeps hk (fun x hx e => by
                have := hraD x hx
                rcases e with e | e <;> omega))
              have hul := users_len ES c
              have HOS5 := Lib.hid OS5
              have K0 : Hid (L4 B D w3 KP k ES S c 0 (.slice qa (S.length + 1) qc) w5 ∧ Keeps (fun b => b = B ∨ D ≤ b) w5 w5) := Lib.hid ⟨⟨_, _, _, _, OS5, HKJ.out⟩, Keeps.refl _ _⟩
              clear hown' hgrow hat OS5 plw e9 hrow hrow2 hrr hraD hpc HOS
              go_wp2_with fail
              clear ucell
              go_loopw [87, 15] (fun s87 _ wv => ∃ j : Nat, j ≤ (usersI ES c).length ∧ s87 = .int .i64 j ∧ Hid (L4 B D w3 KP k ES S c j (.slice qa (S.length + 1) qc) wv ∧ Keeps (fun b => b = B ∨ D ≤ b) w5 wv)) (fun s87 _ _ => (usersI ES c).length - (intOf s87).toNat)
              case atStart => exact ⟨0, Nat.zero_le _, rfl, K0⟩
              case round =>
                obtain ⟨j, hj, rfl, HJ⟩ := hrel
                clear K0
                have HIL : Hid ((usersI ES c).length = (usersOf ES c).length) := Lib.hid (by simp [usersI])
                by_cases hlj : j < (usersI ES c).length
                · have j0 : (0 : Int) ≤ (j : Int) := by omega
                  have j1 : (j : Int) < ((usersI ES c).length : Int) := by omega
                  obtain ⟨ub, uo, rfl, hub, huc⟩ := (UR.out wr HJ.out.2).at hlj
                  obtain ⟨u, hu⟩ : ∃ u, (usersOf ES c)[j]? = some u := ⟨_, List.getElem?_eq_getElem (by rw [← HIL.out]; exact hlj)⟩
                  have hui : (usersI ES c)[j]?.getD 0 = (u : Int) := by simp [usersI, hu]
                  rw [hui] at huc
                  have hum : u < k := (HLT.out _ (mem_users.1 (List.mem_of_getElem? hu))).1
                  have u0 : (0 : Int) ≤ (u : Int) := by omega
                  have u1 : (u : Int) < (k : Int) := by omega
                  obtain ⟨⟨own2, bag2, p2, W2, os2, kj2⟩, hkk⟩ := HJ.out
                  have c9' : wr.cell? ⟨B, u, none⟩ = some (.int .i64 (W2 u : Int)) := by rw [cell_of_row wr B u _ 3 (0, 0) os2.wt, arr_get hum]
                  have f9 : wr.frozen? ⟨B, u, none⟩ = false := frozen_of_row wr B u _ _ os2.wt
                  have hT := (kj2.tell hu hum)
                  have hW1 := hT.1
                  have hWl : W2 u ≤ 1000000 + 1000000 := by
                    have h1 := kj2.w u hum
                    have hil := HIL.out
                    have h2 := cnt_le ES (S ++ [c]) u
                    have h3 : ((usersOf ES c).drop 0).count u ≤ (usersOf ES c).length := List.count_le_length
                    have h4 : ((usersOf ES c).drop j).count u ≤ ((usersOf ES c).drop j).length := List.count_le_length
                    simp only [List.length_drop] at h4
                    omega
                  have e1 : ((W2 u - 1 : Nat) : Int) = (W2 u : Int) - 1 := by omega
                  have OW := os2.wait u (W2 u - 1)
                  have kB : Keeps (fun b => b = B ∨ D ≤ b) w5 (wr.setCell ⟨B, u, none⟩ (.int .i64 ((W2 u - 1 : Nat) : Int))) := hkk.setCell (p := ⟨B, u, none⟩) (.inl rfl) _
                  by_cases hw1 : W2 u = 1
                  · have cp := tell_push OW kj2 hu hum hw1 hn
                    have kT : ∀ w', Keeps (fun b => b = D ∨ own2 = some b) (wr.setCell ⟨B, u, none⟩ (.int .i64 ((W2 u - 1 : Nat) : Int))) w' → Keeps (fun b => b = B ∨ D ≤ b) w5 w' := fun w' hk => kB.trans (hk.mono (fun b _ e => by
                      rcases e with e | e
                      · right; omega
                      · right; exact os2.oD b e))
                    have q1 : ((((W2 u : Nat) : Int) - 1) == 0) = true := by rw [hw1]; rfl
                    have KT := Lib.hid kT
                    have c4 : (wr.setCell ⟨B, u, none⟩ (.int .i64 ((W2 u : Int) - 1))).cell? ⟨B, u, none⟩ = some (.int .i64 ((W2 u : Int) - 1)) := by rw [← e1, cell_of_row _ B u _ 3 (0, 0) OW.wt, arr_get hum, upd_same]
                    rw [e1] at cp KT
                    clear HJ os2 kj2 hkk hT hW1 OW kB e1 kT hu hub hw1
                    go_wp2_with (first | (go_at_call 23; refine cp.mono ?_; rintro e w9 ⟨rfl, hL9, hK9⟩; have NX : Hid (L4 B D w3 KP k ES S c (j + 1) (.slice qa (S.length + 1) qc) w9 ∧ Keeps (fun b => b = B ∨ D ≤ b) w5 w9) := (Lib.hid ⟨hL9, KT.out w9 hK9⟩); clear hL9 hK9))
                    go_roundw
                    case rel => exact ⟨j + 1, by omega, by go_num, NX⟩
                    case measure => simp [intOf]; omega
                  · have NX : Hid (L4 B D w3 KP k ES S c (j + 1) (.slice qa (S.length + 1) qc) (wr.setCell ⟨B, u, none⟩ (.int .i64 ((W2 u - 1 : Nat) : Int))) ∧ Keeps (fun b => b = B ∨ D ≤ b) w5 (wr.setCell ⟨B, u, none⟩ (.int .i64 ((W2 u - 1 : Nat) : Int)))) := Lib.hid ⟨⟨_, _, _, _, OW, hT.2.1 hw1⟩, kB⟩
                    have q1 : ((((W2 u : Nat) : Int) - 1) == 0) = false := by rw [beq_eq_false_iff_ne]; omega
                    have c4 : (wr.setCell ⟨B, u, none⟩ (.int .i64 ((W2 u : Int) - 1))).cell? ⟨B, u, none⟩ = some (.int .i64 ((W2 u : Int) - 1)) := by rw [← e1, cell_of_row _ B u _ 3 (0, 0) OW.wt, arr_get hum, upd_same]
                    rw [e1] at NX
                    clear HJ os2 kj2 hkk hT hW1 OW kB e1 hu hub hw1
                    go_wp2_with fail
                    go_roundw
                    case rel => exact ⟨j + 1, by omega, by go_num, NX⟩
                    case measure => simp [intOf]; omega
                · obtain ⟨⟨own2, bag2, p2, W2, os2, kj2⟩, hkk⟩ := HJ.out
                  have cp := pop_any os2 (kj2.done (by rw [← HIL.out]; omega)) hn
                  clear HJ os2 kj2 hkk
                  go_wp2_with (first | (go_at_call 24; refine cp.mono ?_; rintro e w9 ⟨s12, s13, rfl, hL9⟩; have HL9 := Lib.hid hL9; clear hL9))
                  go_roundw
                  case rel => exact HL9
                  case measure => simp [sliceN]; omega
end Go.Proofs.Ytfpocoaddmgakaa
