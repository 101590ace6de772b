/- Contract of number. -/
import Derived.Test.YtfpocoaddmgakaaNuM
import Derived.Test.YtfpocoaddmgakaaGs7
import Derived.Deep.OwnRows
namespace Go.Proofs.Ytfpocoaddmgakaa
open Go.RowKit Go.Maps
set_option linter.unusedVariables false
set_option linter.unusedSimpArgs false

theorem law : Keyed Try.prog 3 := int_keyed Try.underlying3
theorem zeroE (w : World) : (zeroValue 3).run Try.prog w = .ok (.int .i64 0) w := by kernel_rfl

theorem row_form' {w : World} {base : Nat} {e : TypeId} {size : Nat} {v : Value} {n : Nat} {xs : List Value} (h : w.ownsRow base e size v n xs) : ∃ a c, v = .slice a n c := by
  rcases h.2 with ⟨rfl, h0⟩ | ⟨r, cap, cur, rfl, _⟩
  · rw [h0]; exact ⟨_, _, rfl⟩
  · exact ⟨_, _, rfl⟩
/-- The components under way. -/
structure NumAt (B : Nat) (w wr : World) (n k : Nat) (L : Nat → Int) (H : Nat → Nat) (m : Nat) (pv : Value) (K : List Value) (D : DataW Unit) : Prop where
  num : Num k m L H
  pl : PL (B + 2) wr pv K (cls k H)
  len : K.length = m
  home : wr.heap[B]? = some (.cells (arr n fun v => (H v : Int)) 3 (0, 0))
  map : wr.ownsMap Try.prog 3 (plainElem Try.prog 3) (B + 1) m D
  mi : MI D k L H
  be : Below B w wr
  sz : B + 2 ≤ wr.heap.size

/-- .. when the node's component is known, and not yet put down. -/
structure NumMid (B : Nat) (w wr : World) (n k : Nat) (L : Nat → Int) (H : Nat → Nat) (j m : Nat) (pv : Value) (K : List Value) (D : DataW Unit) : Prop where
  num : Num (k + 1) m L (upd H k j)
  pl : PL (B + 2) wr pv K (cls k H)
  len : K.length = m
  jm : j < m
  home : wr.heap[B]? = some (.cells (arr n fun v => (H v : Int)) 3 (0, 0))
  map : wr.ownsMap Try.prog 3 (plainElem Try.prog 3) (B + 1) m D
  mi : MI D (k + 1) L (upd H k j)
  be : Below B w wr
  sz : B + 2 ≤ wr.heap.size
theorem ownsMap_keeps {N : Nat → Prop} {w w' : World} {k : TypeId} {R : Value → Option (DataW Unit × List MemPlace)} {b n : Nat} {D : DataW Unit} (h : w.ownsMap Try.prog k R b n D) (hk : Keeps N w w') (hn : ¬ N b) : w'.ownsMap Try.prog k R b n D := by
  obtain ⟨es, clock, hb, hrest⟩ := h
  exact ⟨es, clock, (hk.block b (Array.getElem?_eq_some_iff.1 hb).1 hn).trans hb, hrest⟩
theorem NumMid.put {B : Nat} {w wr w1 : World} {n k : Nat} {L : Nat → Int} {H : Nat → Nat} {j m g c m' : Nat} {K : List Value} {D : DataW Unit} {v' : Value} {o : Obj} (h : NumMid B w wr n k L H j m (.slice (some ⟨g, 0, none⟩) m' c) K D) (hk : k < n)
    (hown : w1.ownsRow (B + 2) 3 1 v' ((cls k H j).length + 1) (ints (cls k H j) ++ [.int .i64 (k : Int)])) (hgrow : (wr.alloc o).grownBy w1 (atK K j).ownBlock) (hat : v'.ownBlock = (atK K j).ownBlock ∨ v'.ownBlock = some (wr.heap.size + 1)) :
    NumAt B w ((w1.setCell ⟨g, j, none⟩ v').setCell ⟨B, k, none⟩ (.int .i64 (j : Int))) n (k + 1) L (upd H k j) m (.slice (some ⟨g, 0, none⟩) m' c) (K.set j v') D ∧
      w1.cell? ⟨g, j, none⟩ = some (atK K j) ∧ w1.frozen? ⟨g, j, none⟩ = false ∧ (w1.setCell ⟨g, j, none⟩ v').cell? ⟨B, k, none⟩ = some (.int .i64 (H k : Int)) ∧ (w1.setCell ⟨g, j, none⟩ v').frozen? ⟨B, k, none⟩ = false := by
  have hj : j < K.length := by rw [h.len]; exact h.jm
  have k1 : Keeps (fun b => (atK K j).ownBlock = some b) wr w1 := ((Keeps.refl (fun b => (atK K j).ownBlock = some b) wr).alloc o).trans (Keeps.of_grown hgrow (fun b hb => hb))
  have hat' : ∀ b, v'.ownBlock = some b → (atK K j).ownBlock = some b ∨ wr.heap.size ≤ b := fun b hb => by
    rcases hat with e | e
    · exact .inl (e ▸ hb)
    · rw [e] at hb; simp at hb; exact .inr (by omega)
  obtain ⟨G1, G2, G3⟩ := h.pl.grow hj h.sz hown k1 hat'
  obtain ⟨g', c', e0, _, hcell, hfr⟩ := h.pl.cellAt hj
  obtain ⟨rfl, _, rfl⟩ : g = g' ∧ m' = K.length ∧ c = c' := by simpa using e0
  have hgl := (h.pl.out.lt g rfl)
  have ginn : ¬ (atK K j).ownBlock = some g := fun e => h.pl.far j hj g e rfl
  have innB : ∀ b, (atK K j).ownBlock = some b → B + 2 ≤ b := fun b hb => ((h.pl.own j hj).lt b hb).1
  have home2 : (w1.setCell ⟨g, j, none⟩ v').heap[B]? = some (.cells (arr n fun v => (H v : Int)) 3 (0, 0)) := (G2.block B (by have := h.sz; omega) (fun e => by
    rcases e with e | e
    · omega
    · have := innB B e; omega)).trans h.home
  have k3 : Keeps (fun b => b = B) (w1.setCell ⟨g, j, none⟩ v') ((w1.setCell ⟨g, j, none⟩ v').setCell ⟨B, k, none⟩ (.int .i64 (j : Int))) := (Keeps.refl (fun b => b = B) _).setCell (p := ⟨B, k, none⟩) rfl _
  refine ⟨⟨h.num, ?_, by rw [List.length_set]; exact h.len, ?_, ?_, h.mi, ?_, ?_⟩, ?_, ?_, ?_, frozen_of_row _ B k _ _ home2⟩
  · refine (G1.keeps k3 (fun b hb e => by have := (G1.hasLt hb).1; omega)).congr (fun i _ => cls_step.symm)
  · rw [heap_setCell_same _ B k _ 3 _ home2, arr_set, cast_upd]
  · refine ownsMap_keeps (ownsMap_keeps h.map G2 (fun e => ?_)) k3 (by omega)
    rcases e with e | e
    · omega
    · have := innB _ e; omega
  · refine (h.be.trans (G2.below (by have := h.sz; omega) (fun b e => ?_))).trans (k3.below (by have := G2.size; have := h.sz; omega) (fun b e => by omega))
    rcases e with e | e
    · omega
    · have := innB b e; omega
  · have := G2.size; have := h.sz; have := k3.size; omega
  · rw [World.cell?_of_block (a := ⟨g, j, none⟩) (k1.block g hgl.2 ginn)]; exact hcell
  · rw [World.frozen?_of_block (a := ⟨g, j, none⟩) (k1.block g hgl.2 ginn)]; exact hfr
  · rw [cell_of_row _ B k _ 3 (0, 0) home2, arr_get hk]

theorem NumAt.fresh {B : Nat} {w wr wC w5 : World} {n k : Nat} {L : Nat → Int} {H : Nat → Nat} {m : Nat} {pv v' : Value} {K : List Value} {D D' : DataW Unit} {o : Obj} (h : NumAt B w wr n k L H m pv K D) (hn : ∀ v, v < k → L v ≠ L k) (hm : MI D' (k + 1) L (upd H k m)) (hownC : wC.ownsMap Try.prog 3 (plainElem Try.prog 3) (B + 1) (m + 1) D') (hgrowC : wr.grownBy wC (some (B + 1)))
    (hown : w5.ownsRow (B + 2) 22 1 v' (K.length + 1) (K ++ [.slice none 0 0])) (hgrow : (wC.alloc o).grownBy w5 pv.ownBlock) (hat : v'.ownBlock = pv.ownBlock ∨ v'.ownBlock = some (wC.heap.size + 1)) : NumMid B w w5 n k L H m (m + 1) v' (K ++ [.slice none 0 0]) D' := by
  have kC : Keeps (fun b => b = B + 1) wr wC := Keeps.of_grown hgrowC (fun b hb => by cases hb; rfl)
  have k5 : Keeps (fun b => pv.ownBlock = some b) wC w5 := ((Keeps.refl (fun b => pv.ownBlock = some b) wC).alloc o).trans (Keeps.of_grown hgrow (fun b hb => hb))
  have plC := h.pl.keeps kC (fun b hb e => by have := (h.pl.hasLt hb).1; omega)
  have pvB : ∀ b, pv.ownBlock = some b → B + 2 ≤ b := fun b hb => (h.pl.out.lt b hb).1
  have hsC := kC.size
  have hs5 := k5.size
  have hsz := h.sz
  obtain ⟨P1, _⟩ := plC.pushNil (ov' := v') hown k5 (fun b hb => by
    rcases hat with e | e
    · exact .inl (e ▸ hb)
    · rw [e] at hb; simp at hb; exact .inr (by omega))
  refine ⟨h.num.new hn, P1.congr (fun i _ => ?_), by rw [List.length_append, h.len]; rfl, by omega, ?_, ?_, hm, ?_, by omega⟩
  · by_cases e : i = K.length
    · rw [if_pos e, e, h.len, cls_new h.num]
    · rw [if_neg e]
  · exact (k5.block B (by omega) (fun e => by have := pvB B e; omega)).trans ((kC.block B (by omega) (by omega)).trans h.home)
  · exact ownsMap_keeps hownC k5 (fun e => by have := pvB _ e; omega)
  · exact h.be.trans ((kC.below (B := B) (by omega) (fun b e => by omega)).trans (k5.below (B := B) (by omega) (fun b e => by have := pvB b e; omega)))

def NumRet (w : World) (n : Nat) (L : Nat → Int) (e : Ending) (w' : World) : Prop :=
  ∃ m H K pv, e = .returned (.tuple #[pv, sl w.heap.size n]) ∧ Num n m L H ∧ PL (w.heap.size + 2) w' pv K (cls n H) ∧ K.length = m ∧ w'.heap[w.heap.size]? = some (.cells (arr n fun v => (H v : Int)) 3 (0, 0)) ∧ Below w.heap.size w w'

set_option maxRecDepth 100000 in
set_option maxHeartbeats 4000000 in
theorem number_calls {w : World} {b0 n : Nat} {L : Nat → Int} (hb : w.heap[b0]? = some (.cells (arr n L) 3 (0, 0))) (hn : n ≤ 100000) (hL : ∀ v, v < n → ∃ u : Nat, L v = (u : Int) ∧ u < n) : Calls Try.prog 13 #[sl b0 n] w (NumRet w n L) := by
  obtain ⟨i1, hi, hz0, hz1, hz2⟩ := info_parts info3
  have I := Lib.hid hi
  have Z0 := Lib.hid hz0
  have Z1 := Lib.hid hz1
  have Z2 := Lib.hid hz2
  obtain ⟨i2, hj, hy0, hy1, hy2⟩ := info_parts info22
  have J := Lib.hid hj
  have Y0 := Lib.hid hy0
  have Y1 := Lib.hid hy1
  have Y2 := Lib.hid hy2
  obtain ⟨B, hB⟩ : ∃ B, w.heap.size = B := ⟨_, rfl⟩
  have HB := Lib.hid hB
  have HL := Lib.hid hL
  have hb0 : b0 < B := by rw [← hB]; exact (Array.getElem?_eq_some_iff.1 hb).1
  have HB0 := Lib.hid hb
  clear hi hz0 hz1 hz2 hj hy0 hy1 hy2 hB hL hb
  have hmm := @run_makeMap Try.prog
  go_enter Try.func13, Try.ntmps13
  go_wp2_with (first | (refine wpList_make_row _ rfl _ _ 22 rfl 3 i1 (.int .i64 0) Try.underlying22 I.out Z0.out Z1.out rfl .i64 .i64 n rfl rfl ?b1 ?b2 ?_))
  case b1 => rw [Z2.out]; omega
  case b2 => omega
  have A0 : Hid (NumAt B w ((w.alloc (.cells (madeCells #[.int .i64 0] n) 3)).alloc (.map #[] 0)) n 0 L (fun _ => 0) 0 (.slice none 0 0) [] (.map [])) := Lib.hid (by
    have e1 : (w.alloc (.cells (madeCells #[.int .i64 0] n) 3)).heap.size = B + 1 := by simp [HB.out]
    refine ⟨Num.zero L, PL.nil _ _ _, rfl, ?_, ?_, mi_nil L _, ((Below.refl _ _).alloc (by rw [HB.out]; exact Nat.le_refl _) _).alloc (by rw [e1]; omega) _, by simp [HB.out]⟩
    · rw [heap_alloc_old _ _ (by rw [e1]; omega), ← HB.out, heap_alloc_new, madeZ]; rfl
    · have := World.ownsMap_made (H := Unit) (w.alloc (.cells (madeCells #[.int .i64 0] n) 3)) Try.prog 3 (plainElem Try.prog 3)
      rw [e1] at this; exact this)
  have S0 : w.heap.size + 1 = B + 1 := by rw [HB.out]
  rw [HB.out]
  generalize World.alloc (World.alloc w _) _ = w1 at *
  clear hmm S0
  go_loopw [15, 2, 5, 6, 7, 8] (fun s15 s2 _ _ _ _ wr => ∃ (k : Nat) (H : Nat → Nat) (m : Nat) (pv : Value) (K : List Value) (D : DataW Unit), k ≤ n ∧ s15 = .int .i64 k ∧ pv = s2 ∧ Hid (NumAt B w wr n k L H m pv K D)) (fun s15 _ _ _ _ _ _ => n - (intOf s15).toNat)
  case atStart => exact ⟨0, _, _, _, _, _, Nat.zero_le _, rfl, rfl, A0⟩
  case round =>
    obtain ⟨k, H, m, pv, K, D, hk, rfl, rfl, HA⟩ := hrel
    clear A0
    by_cases hlt : k < n
    · have k0 : (0 : Int) ≤ (k : Int) := by omega
      have k1 : (k : Int) < (n : Int) := by omega
      have hBw : b0 < w.heap.size := by rw [HB.out]; exact hb0
      have hb := (HA.out.be.block b0 hb0).trans HB0.out
      have c1 : wr.cell? ⟨b0, k, none⟩ = some (.int .i64 (L k)) := by rw [cell_of_row wr b0 k _ 3 (0, 0) hb, arr_get hlt]
      obtain ⟨u, hLu, hun⟩ := HL.out k hlt
      have hkey : keyOf Try.prog 3 (.int .i64 (L k)) = some (keyI (L k)) := keyOf_int_mk Try.underlying3 (by rw [hLu]; exact WalkArith.wf_i64 (by omega))
      have HK := Lib.hid hkey
      have hown := HA.out.map
      have hm1 : m ≤ 100000 := by have := HA.out.num.le; omega
      clear hkey hb hBw hLu hun
      by_cases hold : ∃ v, v < k ∧ L v = L k
      · obtain ⟨v, hv, he⟩ := hold
        obtain ⟨M1, M2, M3⟩ := HA.out.mi.old hv he
        have MID : Hid (NumMid B w wr n k L H (H v) m _ K D) := Lib.hid ⟨HA.out.num.old hv he, HA.out.pl, HA.out.len, HA.out.num.lt v hv, HA.out.home, HA.out.map, M1, HA.out.be, HA.out.sz⟩
        have HM2 := Lib.hid M2
        have HM3 := Lib.hid M3
        clear M1 M2 M3 HA he hv
        generalize H v = j at *
        obtain ⟨g, pc, rfl, hpc, hcell, hfr⟩ := MID.out.pl.cellAt (k := j) (by rw [MID.out.len]; exact MID.out.jm)
        obtain ⟨ra, rc, hrow, hrc⟩ := MID.out.pl.rowForm (k := j) (by rw [MID.out.len]; exact MID.out.jm)
        rw [hrow] at hcell
        have HOW := Lib.hid (MID.out.pl.own (j) (by rw [MID.out.len]; exact MID.out.jm))
        rw [hrow] at HOW
        have HRO := Lib.hid hrow
        have hcl := cls_len k H (j)
        have j0 : (0 : Int) ≤ ((j : Nat) : Int) := by omega
        have j1 : ((j : Nat) : Int) < (K.length : Int) := by have h1 := MID.out.len; have h2 := MID.out.jm; omega
        clear hrow hrc
        have sz0 : B + 2 ≤ wr.heap.size := MID.out.sz
        go_wp2_with (first | (at_lookup; refine wpList_lookup_own_ok_int _ rfl _ _ 42 rfl 3 3 .i64 law Try.underlying42 Try.underlying3 (zeroE _) (B + 1) m D rfl hown _ _ rfl HK.out ?_; intro c hat hwc; rw [HM2.out]; rw [HM3.out] at hat; obtain rfl : (j : Int) = c := (by simpa using hat); clear hat hwc) | (at_builtin; refine wpList_append_own_at _ rfl _ _ 22 rfl (B + 2) 3 i1 (.int .i64 0) 1 8 Try.underlying22 I.out Z0.out Z1.out Z2.out rfl (by decide) _ _ _ rfl (HOW.out.alloc _) ⟨wr.heap.size, 0, none⟩ 1 1 [.int .i64 k] rfl rfl ?c1 ?c2 ?c3 ?c4 ?c5 ?_))
        case c1 => exact cell_one_new wr _ _
        case c2 => intro u hu; simp at hu; subst hu; rfl
        case c3 => unfold maxLen; omega
        case c4 => omega
        case c5 => simp; omega
        intro v' w5 hown' hgrow _ hat
        have R := MID.out.put (v' := v') hlt hown' (by rw [HRO.out]; exact hgrow) (by rw [HRO.out]; simpa using hat)
        rw [HRO.out] at R
        obtain ⟨R1, R2, R3, R4, R5⟩ := R
        have NN := Lib.hid R1
        obtain ⟨qa, qc, rfl⟩ := row_form' hown'
        clear R1 hown' hgrow hat hcell hfr hown c1
        go_wp2_with fail
        go_roundw
        case rel => exact ⟨k + 1, _, _, _, _, _, by omega, by go_num, rfl, NN⟩
        case measure => simp [intOf]; omega
      · have hnew : ∀ v, v < k → L v ≠ L k := fun v hv e => hold ⟨v, hv, e⟩
        have hlen := HA.out.len
        subst hlen
        obtain ⟨M1, M2, M3⟩ := HA.out.mi.new hnew K.length
        have HM1 := Lib.hid M1
        have HM2 := Lib.hid M2
        have HM3 := Lib.hid M3
        have HNW := Lib.hid hnew
        obtain ⟨pa, pc, rfl, hpc⟩ := HA.out.pl.form
        have HP := Lib.hid HA.out.pl
        clear M1 M2 M3 hold hnew
        have sz0 : B + 2 ≤ wr.heap.size := HA.out.sz
        go_wp2_with (first | (at_lookup; refine wpList_lookup_own_ok_int _ rfl _ _ 42 rfl 3 3 .i64 law Try.underlying42 Try.underlying3 (zeroE _) (B + 1) K.length D rfl hown _ _ rfl HK.out ?_; intro c hat hwc; rw [HM2.out]; rw [HM3.out] at hat; obtain rfl : (0 : Int) = c := (by simpa using hat); clear hat hwc) | (at_mapUpdate; refine wpList_mapUpdate_own _ rfl _ _ _ 42 rfl 3 3 law Try.underlying42 _ (B + 1) K.length D rfl hown (by unfold maxLen; omega) _ _ _ rfl rfl HK.out _ [] (plainElem_int Try.underlying3 (WalkArith.wf_i64 (by omega))) ?_; intro wC hownC hgrowC; have HOC := Lib.hid hownC; have HGC := Lib.hid hgrowC; have PLC := Lib.hid (HP.out.keeps (Keeps.of_grown (N := fun b => b = B + 1) hgrowC (fun b hb => by cases hb; rfl)) (fun b hb e => by have := (HP.out.hasLt hb).1; omega)); have szC : B + 2 ≤ wC.heap.size := (Nat.le_trans sz0 hgrowC.size); clear hownC hgrowC) | (at_builtin; refine wpList_append_own_at _ rfl _ _ 24 rfl (B + 2) 22 i2 (.slice none 0 0) 1 24 Try.underlying24 J.out Y0.out Y1.out Y2.out rfl (by decide) _ _ _ rfl (PLC.out.out.alloc _) ⟨wC.heap.size, 0, none⟩ 1 1 [.slice none 0 0] rfl rfl ?d1 ?d2 ?d3 ?d4 ?d5 ?_))
        case d1 => exact cell_one_new wC _ _
        case d2 => intro u hu; simp at hu; subst hu; rfl
        case d3 => unfold maxLen; omega
        case d4 => omega
        case d5 => simp; omega
        intro v' w4 hown' hgrow _ hat
        have MID := Lib.hid (HA.out.fresh HNW.out HM1.out HOC.out HGC.out hown' hgrow (by simpa using hat))
        clear hown' hgrow hat hown c1 HP PLC HA HOC HGC
        obtain ⟨g, pc, rfl, hpc, hcell, hfr⟩ := MID.out.pl.cellAt (k := K.length) (by rw [MID.out.len]; exact MID.out.jm)
        obtain ⟨ra, rc, hrow, hrc⟩ := MID.out.pl.rowForm (k := K.length) (by rw [MID.out.len]; exact MID.out.jm)
        rw [hrow] at hcell
        have HOW := Lib.hid (MID.out.pl.own (K.length) (by rw [MID.out.len]; exact MID.out.jm))
        rw [hrow] at HOW
        have HRO := Lib.hid hrow
        have hcl := cls_len k H (K.length)
        have j0 : (0 : Int) ≤ ((K.length : Nat) : Int) := by omega
        have j1 : ((K.length : Nat) : Int) < ((K ++ [Value.slice none 0 0]).length : Int) := by have h1 := MID.out.len; have h2 := MID.out.jm; omega
        clear hrow hrc
        have sz5 : B + 2 ≤ w4.heap.size := MID.out.sz
        go_wp2_with (first | (at_builtin; refine wpList_append_own_at _ rfl _ _ 22 rfl (B + 2) 3 i1 (.int .i64 0) 1 8 Try.underlying22 I.out Z0.out Z1.out Z2.out rfl (by decide) _ _ _ rfl (HOW.out.alloc _) ⟨w4.heap.size, 0, none⟩ 1 1 [.int .i64 k] rfl rfl ?e1 ?e2 ?e3 ?e4 ?e5 ?_))
        case e1 => exact cell_one_new w4 _ _
        case e2 => intro u hu; simp at hu; subst hu; rfl
        case e3 => unfold maxLen; omega
        case e4 => omega
        case e5 => simp; omega
        intro v' w5 hown' hgrow _ hat
        have R := MID.out.put (v' := v') hlt hown' (by rw [HRO.out]; exact hgrow) (by rw [HRO.out]; simpa using hat)
        rw [HRO.out] at R
        obtain ⟨R1, R2, R3, R4, R5⟩ := R
        rw [show (K ++ [Value.slice none 0 0]).length = K.length + 1 from by simp] at R1
        have NN := Lib.hid R1
        obtain ⟨qa, qc, rfl⟩ := row_form' hown'
        clear R1 hown' hgrow hat hcell hfr
        go_wp2_with fail
        go_roundw
        case rel => exact ⟨k + 1, _, _, _, _, _, by omega, by go_num, rfl, NN⟩
        case measure => simp [intOf]; omega
    · obtain rfl : k = n := by omega
      have R := Lib.hid (show NumRet w k L (.returned (.tuple #[pv, sl B k])) wr from ⟨m, H, K, pv, by rw [HB.out], HA.out.num, by rw [HB.out]; exact HA.out.pl, HA.out.len, by rw [HB.out]; exact HA.out.home, by rw [HB.out]; exact HA.out.be⟩)
      obtain ⟨pa, pc, rfl, _⟩ := HA.out.pl.form
      clear HA
      go_wp2_with fail
      go_ret2
      exact R.out
end Go.Proofs.Ytfpocoaddmgakaa
