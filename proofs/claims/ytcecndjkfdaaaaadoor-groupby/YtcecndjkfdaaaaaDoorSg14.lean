/- Contract of the statements' own Sorted: rows put in one by one. -/
import Derived.Test.YtcecndjkfdaaaaaDoorSg10
import Derived.Deep.Onto
namespace Go.Proofs.YtcecndjkfdaaaaaDoor
open Go.RowKit
set_option linter.unusedVariables false
set_option linter.unusedSimpArgs false

def SortRet (w : World) (wd : Nat) (A : List RV) (e : Ending) (w' : World) : Prop :=
  ∃ a c L, e = .returned (.slice a L.length c) ∧ L.map (·.2.1) = relOf wd (A.map (·.2.1)) ∧ RRow w' a L ∧ (∀ x ∈ L, x ∈ A) ∧ Below w.heap.size w w'
/-- The same, and the slice is not nil. -/
def SortRet2 (w : World) (wd : Nat) (A : List RV) (e : Ending) (w' : World) : Prop :=
  ∃ g c L, e = .returned (.slice (some ⟨g, 0, none⟩) L.length c) ∧ L.map (·.2.1) = relOf wd (A.map (·.2.1)) ∧ RRow w' (some ⟨g, 0, none⟩) L ∧ (∀ x ∈ L, x ∈ A) ∧ Below w.heap.size w w'
theorem map_atV {L : List RV} {i : Nat} (h : i < L.length) : (L.map (·.2.1))[i]?.getD [] = (atV L i).2.1 := by simp [h, atV]
theorem ins_at {L : List RV} {x : RV} (hn : ¬ (L.map (·.2.1))[before (L.map (·.2.1)) x.2.1]? = some x.2.1) : (L.take (before (L.map (·.2.1)) x.2.1) ++ x :: L.drop (before (L.map (·.2.1)) x.2.1)).map (·.2.1) = ins (L.map (·.2.1)) x.2.1 := by
  unfold ins
  rw [if_neg hn]
  simp
theorem ins_there {L : List RV} {x : RV} (hn : (L.map (·.2.1))[before (L.map (·.2.1)) x.2.1]? = some x.2.1) : L.map (·.2.1) = ins (L.map (·.2.1)) x.2.1 := by
  unfold ins; rw [if_pos hn]
/-- A list of rows of the call's own, at a known block. -/
structure OutAt (B : Nat) (w : World) (g c : Nat) (L : List RV) : Prop where
  own : w.ownsRow B 22 1 (.slice (some ⟨g, 0, none⟩) L.length c) L.length (L.map encV)
theorem OutAt.below {B : Nat} {w w' : World} {g c : Nat} {L : List RV} (h : OutAt B w g c L) (hb : Below w.heap.size w w') : OutAt B w' g c L := ⟨owns_keeps (N := fun _ => False) h.own (Keeps.of_below hb) (fun _ _ h => h)⟩
theorem OutAt.facts {B : Nat} {w : World} {g c : Nat} {L : List RV} (h : OutAt B w g c L) : B ≤ g ∧ g < w.heap.size ∧ L.length ≤ c ∧ c ≤ 2 ^ 63 - 1 := by
  rcases h.own.2 with ⟨h0, _⟩ | ⟨g', cap', cur, hv, hb, hh, hn, hc, _⟩
  · cases h0
  · cases hv; exact ⟨hb, (Array.getElem?_eq_some_iff.1 hh).1, hn, by unfold maxLen at hc; exact hc⟩
theorem OutAt.cell {B : Nat} {w : World} {g c : Nat} {L : List RV} (h : OutAt B w g c L) {i : Nat} (hi : i < L.length) : w.cell? ⟨g, i, none⟩ = some (.slice (atV L i).1 (atV L i).2.1.length (atV L i).2.2) := by
  rw [h.own.cellAt i (by omega), map_at hi]; rfl
theorem addr_add (g i j : Nat) : (⟨g, i, none⟩ : Addr).add j = ⟨g, i + j, none⟩ := by simp only [Addr.add]; split <;> simp_all

set_option maxRecDepth 100000 in
set_option maxHeartbeats 4000000 in
theorem sorted_calls2 (wd : Nat) (a : Option Addr) (cap : Nat) (A : List RV) (w : World) (hR : RRow w a A) (hwd : wd ≤ 1000) (hA : A.length ≤ 1000) (hlen : ∀ x ∈ A, x.2.1.length ≤ 1000000) :
    Calls Tryd.prog 37 #[.int .i64 wd, .slice a A.length cap] w (SortRet2 w wd A) := by
  obtain ⟨i0, hi, hz0, hz1, hz2⟩ := info_parts info33
  have I := Lib.hid hi
  have Z0 := Lib.hid hz0
  have Z1 := Lib.hid hz1
  have Z2 := Lib.hid hz2
  clear hi hz0 hz1 hz2
  obtain ⟨B, hB⟩ : ∃ B, w.heap.size = B := ⟨_, rfl⟩
  have HB := Lib.hid hB
  have HR := Lib.hid hR
  have HLn := Lib.hid hlen
  have HBr := fun (W : World) (hb : Below B w W) => (show B ≤ W.heap.size by have := hb.size; rw [HB.out] at this; exact this)
  clear hB hR hlen
  go_enter Tryd.func37, Tryd.ntmps37
  go_wp2_with fail
  have O0 : Hid (OutAt B (w.alloc (.cells #[] 22)) w.heap.size 0 []) := Lib.hid ⟨World.ownsRow_lit (base := B) (e := 22) (size := 1) w #[] 0 (Nat.le_of_eq HB.out.symm) (by decide) rfl⟩
  have B0 : Hid (Below B w (w.alloc (.cells #[] 22))) := Lib.hid ((Below.refl _ _).alloc (Nat.le_of_eq HB.out.symm) _)
  generalize World.alloc _ _ = w1 at *
  generalize w.heap.size = g0 at O0 ⊢
  go_loopw [13, 5] (fun s v wr => ∃ (k g c : Nat) (L : List RV), k ≤ A.length ∧ s = .int .i64 k ∧ v = .slice (some ⟨g, 0, none⟩) L.length c ∧ L.length ≤ k ∧ Hid (L.map (·.2.1) = relOf wd ((A.take k).map (·.2.1))) ∧ Hid (∀ x ∈ L, x ∈ A) ∧ Hid (OutAt B wr g c L) ∧ Hid (Below B w wr)) (fun s _ _ => A.length - (intOf s).toNat)
  case atStart => exact ⟨0, g0, 0, [], Nat.zero_le _, rfl, rfl, Nat.le_refl _, Lib.hid rfl, Lib.hid (fun x hx => by cases hx), O0, B0⟩
  case round =>
    obtain ⟨k, g, c, L, hk, rfl, rfl, hLk, HE, HLA, HO, HBe⟩ := hrel
    by_cases hlt : k < A.length
    · obtain ⟨b, off, rfl, hb, hcell, hrow, _⟩ := (HR.out.belowB HB.out HBe.out).at hlt
      have hxl := HLn.out _ (atV_mem hlt)
      have MM : Hid (atV A k ∈ A) := Lib.hid (atV_mem hlt)
      have RT : Hid (relOf wd ((A.take (k + 1)).map (·.2.1)) = if ((atV A k).2.1.length : Int) = wd then ins (relOf wd ((A.take k).map (·.2.1))) (atV A k).2.1 else relOf wd ((A.take k).map (·.2.1))) := Lib.hid (by
        have := rel_take (width := (wd : Int)) (rows := A.map (·.2.1)) (k := k) (by simpa using hlt)
        rw [map_atV hlt, ← List.map_take, ← List.map_take] at this
        exact this)
      obtain ⟨x, hx⟩ : ∃ x, atV A k = x := ⟨_, rfl⟩
      rw [hx] at hcell hxl MM RT hrow
      clear hx
      have HRx := Lib.hid (show Row w x.1 x.2.1 from (HR.out.2 x MM.out).1)
      clear hrow
      obtain ⟨xa, xz, xc⟩ := x
      simp only at hcell hxl RT HRx
      by_cases hw : xz.length = wd
      · have t1 : ((xz.length : Int) != (wd : Int)) = false := by simp [hw]
        have RI : Hid (relOf wd ((A.take (k + 1)).map (·.2.1)) = ins (L.map (·.2.1)) xz) := Lib.hid (by rw [RT.out, if_pos (by omega), HE.out])
        obtain ⟨p0, hp0⟩ : ∃ p, before (L.map (·.2.1)) xz = p := ⟨_, rfl⟩
        have HP0 := Lib.hid hp0
        have hpl : p0 ≤ L.length := by have := before_le (L.map (·.2.1)) xz; rw [hp0] at this; simpa using this
        clear hp0 hw
        obtain ⟨wm, rfl⟩ : ∃ y, y = wr := ⟨wr, rfl⟩
        go_wp2_with fail
        go_loopw [8] (fun s wv => ∃ i q : Nat, s = .int .i64 i ∧ i ≤ p0 ∧ Hid (wv = wm.drewN q)) (fun s _ => p0 - (intOf s).toNat)
        case atStart => exact ⟨0, 0, rfl, Nat.zero_le _, Lib.hid rfl⟩
        case round =>
          obtain ⟨i, q, rfl, hip, HW⟩ := hrel
          have HBv : Hid (Below B w wr) := Lib.hid (by rw [HW.out]; exact below_drewN HBe.out q)
          have HOv : Hid (OutAt B wr g c L) := Lib.hid (by rw [HW.out]; exact HO.out.below (below_drewN (Below.refl _ _) q))
          by_cases hiL : i < L.length
          · have hce := HOv.out.cell hiL
            have hxi := HR.out.2 _ (HLA.out _ (atV_mem hiL))
            have hli := HLn.out _ (HLA.out _ (atV_mem hiL))
            have cc := lawCompare_calls (atV L i).1 xa (atV L i).2.2 xc (atV L i).2.1 xz wr (hxi.1.belowB HB.out HBv.out) (HRx.out.belowB HB.out HBv.out) hli hxl
            have BS : Hid (cmpR (atV L i).2.1 xz < 0 ↔ i < p0) := Lib.hid (by
              have := before_step (l := L.map (·.2.1)) (r := xz) (i := i) (by simpa using hiL) (by rw [HP0.out]; exact hip)
              rw [map_atV hiL, HP0.out] at this; exact this)
            have BZ : Hid ((L.map (·.2.1))[i]? = some (atV L i).2.1) := Lib.hid (by simp [hiL, atV])
            clear hxi hli
            obtain ⟨cv, hcv⟩ : ∃ cv, cmpR (atV L i).2.1 xz = cv := ⟨_, rfl⟩
            rw [hcv] at cc BS
            have HCV := Lib.hid hcv
            clear hcv
            by_cases hlt0 : cv < 0
            · have hip2 : i < p0 := BS.out.1 hlt0
              go_wp2_with fail
              refine cc.mono ?_
              rintro e w5 ⟨rfl, q5, hw5⟩
              have HW5 : Hid (w5 = wm.drewN (q + q5)) := Lib.hid (by rw [hw5]; exact drewM HW.out)
              clear hw5 cc hce
              go_wp2_with fail
              go_roundw
              case rel => exact ⟨i + 1, q + q5, by go_num, by omega, HW5⟩
              case measure => simp [intOf]; omega
            · obtain rfl : i = p0 := by
                rcases Nat.lt_or_ge i p0 with h | h
                · exact absurd (BS.out.2 h) hlt0
                · omega
              have t3 : decide (cv < 0) = false := decide_eq_false hlt0
              go_wp2_with fail
              refine cc.mono ?_
              rintro e w5 ⟨rfl, q5, hw5⟩
              have HW5 : Hid (w5 = wm.drewN (q + q5)) := Lib.hid (by rw [hw5]; exact drewM HW.out)
              have BEL5 : Hid (Below B w w5) := Lib.hid (by rw [hw5]; exact below_drewN HBv.out _)
              have O5 : Hid (OutAt B w5 g c L) := Lib.hid (by rw [hw5]; exact HOv.out.below (below_drewN (Below.refl _ _) _))
              have hce5 := O5.out.cell hiL
              have cc5 := lawCompare_calls (atV L i).1 xa (atV L i).2.2 xc (atV L i).2.1 xz w5 ((HR.out.2 _ (HLA.out _ (atV_mem hiL))).1.belowB HB.out BEL5.out) (HRx.out.belowB HB.out BEL5.out) (HLn.out _ (HLA.out _ (atV_mem hiL))) hxl
              rw [HCV.out] at cc5
              clear hw5 cc hce
              by_cases hz : cv = 0
              · subst hz
                have NX : Hid (L.map (·.2.1) = relOf wd ((A.take (k + 1)).map (·.2.1))) := Lib.hid (by
                  rw [RI.out]
                  exact ins_there (L := L) (x := (xa, xz, xc)) (by
                    rw [show before (L.map (·.2.1)) (xa, xz, xc).2.1 = i from HP0.out, BZ.out, cmpR_eq HCV.out]))
                go_wp2_with fail
                refine cc5.mono ?_
                rintro e w6 ⟨rfl, q6, hw6⟩
                have BE6 : Hid (Below B w w6) := Lib.hid (by rw [hw6]; exact below_drewN BEL5.out _)
                have O6 : Hid (OutAt B w6 g c L) := Lib.hid (by rw [hw6]; exact O5.out.below (below_drewN (Below.refl _ _) _))
                clear hw6 cc5 hce5
                go_wp2_with fail
                go_roundw
                case rel => exact ⟨k + 1, g, c, L, by omega, by go_num, rfl, by omega, NX, HLA, O6, BE6⟩
                case measure => simp [intOf]; omega
              · skip
                have t4 : (cv == 0) = false := beq_eq_false_iff_ne.2 hz
                have NF : Hid (¬ (L.map (·.2.1))[i]? = some xz) := Lib.hid (fun h => by
                  rw [BZ.out] at h
                  simp only [Option.some.injEq] at h
                  have := HCV.out; rw [h, cmpR_self] at this; exact hz this.symm)
                go_wp2_with fail
                refine cc5.mono ?_
                rintro e w9 ⟨rfl, q9, hw9⟩
                have BEL9 : Hid (Below B w w9) := Lib.hid (by rw [hw9]; exact below_drewN BEL5.out _)
                have O9 : Hid (OutAt B w9 g c L) := Lib.hid (by rw [hw9]; exact O5.out.below (below_drewN (Below.refl _ _) _))
                clear hw9 cc5 hce5 BEL5 O5
                have BEL5 := BEL9
                have O5 := O9
                clear BEL9 O9
                have LN : Hid (∀ y ∈ L.take i ++ (xa, xz, xc) :: L.drop i, y ∈ A) := Lib.hid (fun y hy => by
                  rcases List.mem_append.1 hy with h | h
                  · exact HLA.out y (List.mem_of_mem_take h)
                  · rcases List.mem_cons.1 h with h | h
                    · rw [h]; exact MM.out
                    · exact HLA.out y (List.mem_of_mem_drop h))
                have IE : Hid ((L.take i ++ (xa, xz, xc) :: L.drop i).map (·.2.1) = relOf wd ((A.take (k + 1)).map (·.2.1))) := Lib.hid (by
                  have := ins_at (L := L) (x := (xa, xz, xc)) (by rw [show before (L.map (·.2.1)) (xa, xz, xc).2.1 = i from HP0.out]; exact NF.out)
                  rw [show before (L.map (·.2.1)) (xa, xz, xc).2.1 = i from HP0.out] at this
                  rw [RI.out]; exact this)
                have LL : Hid ((L.take i ++ (xa, xz, xc) :: L.drop i).length = L.length + 1) := Lib.hid (by simp; omega)
                have hLA : L.length ≤ 1000 := by omega
                have LT := Lib.hid (World.ownsRow_lit (base := w9.heap.size) (e := 22) (size := 1) w9 #[] 0 (Nat.le_refl _) (by decide) rfl)
                have OF := O5.out.facts
                have b1 : Hid (Below w9.heap.size w9 (w9.alloc (.cells #[] 22))) := Lib.hid ((Below.refl _ _).alloc (Nat.le_refl _) _)
                have NEWS1 : Hid (∀ (j : Nat) (u : Value), ((L.map encV).take i)[j]? = some u → (w9.alloc (.cells #[] 22)).cell? ((⟨g, 0, none⟩ : Addr).add j) = some u) := Lib.hid (fun j u hj => by
                  have hji : j < i := by
                    rcases Nat.lt_or_ge j i with h | h
                    · exact h
                    · rw [List.getElem?_eq_none (by simp; omega)] at hj; cases hj
                  rw [List.getElem?_take_of_lt hji, map_at (by omega)] at hj
                  cases hj
                  rw [addr_add, Nat.zero_add, (O5.out.below b1.out).own.cellAt j (by omega), map_at (by omega)])
                go_wp2_with (first | (at_builtin; refine wpList_append_own _ rfl _ _ 32 rfl w9.heap.size 22 i0 (.slice none 0 0) 1 24 Tryd.underlying32 I.out Z0.out Z1.out Z2.out rfl (by decide) _ _ _ rfl LT.out ⟨g, 0, none⟩ i c ((L.map encV).take i) rfl (by simp; omega) NEWS1.out ?a2 ?a3 ?a4 ?a5 ?_))
                case a2 => intro u hu; obtain ⟨x, _, rfl⟩ := List.mem_map.1 (List.mem_of_mem_take hu); rfl
                case a3 => unfold maxLen; omega
                case a4 => omega
                case a5 => simp
                intro v1 w6 hown1 hgrow1 _
                have b6 : Hid (Below w9.heap.size w9 w6) := Lib.hid (b1.out.grown hgrow1 (by simp) (fun k hk => (LT.out.lt k hk).1))
                have O6 := Lib.hid hown1
                have s6 := b6.out.size
                clear hown1 hgrow1
                go_wp2_with (first | (at_builtin; refine wpList_append_own _ rfl _ _ 32 rfl w9.heap.size 22 i0 (.slice none 0 0) 1 24 Tryd.underlying32 I.out Z0.out Z1.out Z2.out rfl (by decide) _ _ _ rfl (O6.out.alloc _) ⟨w6.heap.size, 0, none⟩ 1 1 [.slice xa xz.length xc] rfl rfl ?f1 ?f2 ?f3 ?f4 ?f5 ?_))
                case f1 =>
                  intro j u hj
                  match j, hj with
                  | 0, hj => simp at hj; subst hj; simp [Addr.add]
                case f2 => intro u hu; simp at hu; subst hu; rfl
                case f3 => unfold maxLen; omega
                case f4 => omega
                case f5 => simp; omega
                intro v2 w7 hown2 hgrow2 _
                have b7 : Hid (Below w9.heap.size w9 w7) := Lib.hid ((b6.out.alloc s6 _).grown hgrow2 (by simp; omega) (fun k hk => (O6.out.lt k hk).1))
                have O7 := Lib.hid hown2
                have OUT7 := Lib.hid (O5.out.below b7.out)
                have s7 := b7.out.size
                clear hown2 hgrow2
                by_cases hci : c = i
                · obtain rfl : i = c := hci.symm
                  have hLi' : L.length ≤ i := by omega
                  obtain ⟨m, hm⟩ : ∃ m, L.length - i = m := ⟨_, rfl⟩
                  have NEWS3 : Hid (∀ (j : Nat) (u : Value), ((L.map encV).drop i)[j]? = some u → w7.cell? ((⟨g, 0, none⟩ : Addr).add j) = some u) := Lib.hid (fun j u hj => by
                    rw [List.getElem?_eq_none (by simp; omega)] at hj; cases hj)
                  have HMl : Hid (((L.map encV).drop i).length = m * 1) := Lib.hid (by simp; omega)
                  have hm1 : m ≤ 1000 := by omega
                  have HM := Lib.hid hm
                  go_wp2_with (first | (at_builtin; refine wpList_append_own _ rfl _ _ 32 rfl w9.heap.size 22 i0 (.slice none 0 0) 1 24 Tryd.underlying32 I.out Z0.out Z1.out Z2.out rfl (by decide) _ _ _ rfl O7.out ⟨g, 0, none⟩ m 0 ((L.map encV).drop i) ?h0n HMl.out NEWS3.out ?h2n ?h3n ?h4n ?h5n ?_))
                  case h2n => intro u hu; obtain ⟨x, _, rfl⟩ := List.mem_map.1 (List.mem_of_mem_drop hu); rfl
                  case h3n => unfold maxLen; omega
                  case h4n => omega
                  intro v3 w8 hown3 hgrow3 _
                  obtain ⟨g3, c3, hv3, hg3, _⟩ := hown3.form (by omega)
                  have b8 : Hid (Below w9.heap.size w9 w8) := Lib.hid (b7.out.grown hgrow3 s7 (fun k hk => (O7.out.lt k hk).1))
                  have BE8 : Hid (Below B w w8) := Lib.hid (BEL5.out.trans (b8.out.mono (HBr _ BEL5.out)))
                  have OU8 : Hid (OutAt B w8 g3 c3 (L.take i ++ (xa, xz, xc) :: L.drop i)) := Lib.hid ⟨by
                    have h9 := hown3.mono (HBr _ BEL5.out)
                    rw [hv3] at h9
                    have e1 : (L.map encV).take i ++ Value.slice xa xz.length xc :: (L.map encV).drop i = (L.take i ++ (xa, xz, xc) :: L.drop i).map encV := by simp [encV]
                    rw [LL.out]
                    rw [e1, show i + 1 + m = L.length + 1 by have := HM.out; omega] at h9
                    exact h9⟩
                  subst hv3
                  rw [show i + 1 + m = L.length + 1 by omega]
                  clear hown3 hgrow3 hm
                  rw [← LL.out]
                  obtain ⟨LL', hLL'⟩ : ∃ l, L.take i ++ (xa, xz, xc) :: L.drop i = l := ⟨_, rfl⟩
                  have hl8 : LL'.length ≤ k + 1 := by rw [← hLL', LL.out]; omega
                  rw [hLL'] at IE OU8 LN ⊢
                  clear hLL' NEWS3 HMl
                  go_wp2_with fail
                  go_roundw
                  case rel => exact ⟨k + 1, g3, c3, LL', by omega, by go_num, rfl, hl8, IE, LN, OU8, BE8⟩
                  case measure => simp [intOf]; omega
                · obtain ⟨m, hm⟩ : ∃ m, L.length - i = m := ⟨_, rfl⟩
                  have NEWS3 : Hid (∀ (j : Nat) (u : Value), ((L.map encV).drop i)[j]? = some u → w7.cell? ((⟨g, i, none⟩ : Addr).add j) = some u) := Lib.hid (fun j u hj => by
                    have hji : j < L.length - i := by
                      rcases Nat.lt_or_ge j (L.length - i) with h | h
                      · exact h
                      · rw [List.getElem?_eq_none (by simp; omega)] at hj; cases hj
                    rw [List.getElem?_drop, map_at (by omega)] at hj
                    cases hj
                    rw [addr_add, OUT7.out.own.cellAt (i + j) (by omega), map_at (by omega)])
                  have HMl : Hid (((L.map encV).drop i).length = m * 1) := Lib.hid (by simp; omega)
                  have hm1 : m ≤ 1000 := by omega
                  have HM := Lib.hid hm
                  go_wp2_with (first | (at_builtin; refine wpList_append_own _ rfl _ _ 32 rfl w9.heap.size 22 i0 (.slice none 0 0) 1 24 Tryd.underlying32 I.out Z0.out Z1.out Z2.out rfl (by decide) _ _ _ rfl O7.out ⟨g, i, none⟩ m (c - i) ((L.map encV).drop i) ?h0 HMl.out NEWS3.out ?h2 ?h3 ?h4 ?h5 ?_))
                  case h0 => rw [← HM.out]; rfl
                  case h2 => intro u hu; obtain ⟨x, _, rfl⟩ := List.mem_map.1 (List.mem_of_mem_drop hu); rfl
                  case h3 => unfold maxLen; omega
                  case h4 => omega
                  case h5 => exact s7
                  intro v3 w8 hown3 hgrow3 _
                  obtain ⟨g3, c3, hv3, hg3, _⟩ := hown3.form (by omega)
                  have b8 : Hid (Below w9.heap.size w9 w8) := Lib.hid (b7.out.grown hgrow3 s7 (fun k hk => (O7.out.lt k hk).1))
                  have BE8 : Hid (Below B w w8) := Lib.hid (BEL5.out.trans (b8.out.mono (HBr _ BEL5.out)))
                  have OU8 : Hid (OutAt B w8 g3 c3 (L.take i ++ (xa, xz, xc) :: L.drop i)) := Lib.hid ⟨by
                    have h9 := hown3.mono (HBr _ BEL5.out)
                    rw [hv3] at h9
                    have e1 : (L.map encV).take i ++ Value.slice xa xz.length xc :: (L.map encV).drop i = (L.take i ++ (xa, xz, xc) :: L.drop i).map encV := by simp [encV]
                    rw [LL.out]
                    rw [e1, show i + 1 + m = L.length + 1 by have := HM.out; omega] at h9
                    exact h9⟩
                  subst hv3
                  rw [show i + 1 + m = L.length + 1 by omega]
                  clear hown3 hgrow3 hm
                  rw [← LL.out]
                  obtain ⟨LL', hLL'⟩ : ∃ l, L.take i ++ (xa, xz, xc) :: L.drop i = l := ⟨_, rfl⟩
                  have hl8 : LL'.length ≤ k + 1 := by rw [← hLL', LL.out]; omega
                  rw [hLL'] at IE OU8 LN ⊢
                  clear hLL' NEWS3 HMl
                  go_wp2_with fail
                  go_roundw
                  case rel => exact ⟨k + 1, g3, c3, LL', by omega, by go_num, rfl, hl8, IE, LN, OU8, BE8⟩
                  case measure => simp [intOf]; omega
          · obtain rfl : i = p0 := by omega
            have hiL' : L.length ≤ i := by omega
            have NF : Hid (¬ (L.map (·.2.1))[i]? = some xz) := Lib.hid (by rw [List.getElem?_eq_none (by simp; omega)]; simp)
            have BEL5 := HBv
            have O5 := HOv
            have t5 : decide (i < L.length) = false := decide_eq_false hiL
            clear hiL HBv HOv
            have LN : Hid (∀ y ∈ L.take i ++ (xa, xz, xc) :: L.drop i, y ∈ A) := Lib.hid (fun y hy => by
              rcases List.mem_append.1 hy with h | h
              · exact HLA.out y (List.mem_of_mem_take h)
              · rcases List.mem_cons.1 h with h | h
                · rw [h]; exact MM.out
                · exact HLA.out y (List.mem_of_mem_drop h))
            have IE : Hid ((L.take i ++ (xa, xz, xc) :: L.drop i).map (·.2.1) = relOf wd ((A.take (k + 1)).map (·.2.1))) := Lib.hid (by
              have := ins_at (L := L) (x := (xa, xz, xc)) (by rw [show before (L.map (·.2.1)) (xa, xz, xc).2.1 = i from HP0.out]; exact NF.out)
              rw [show before (L.map (·.2.1)) (xa, xz, xc).2.1 = i from HP0.out] at this
              rw [RI.out]; exact this)
            have LL : Hid ((L.take i ++ (xa, xz, xc) :: L.drop i).length = L.length + 1) := Lib.hid (by simp; omega)
            have hLA : L.length ≤ 1000 := by omega
            have LT := Lib.hid (World.ownsRow_lit (base := wr.heap.size) (e := 22) (size := 1) wr #[] 0 (Nat.le_refl _) (by decide) rfl)
            have OF := O5.out.facts
            have b1 : Hid (Below wr.heap.size wr (wr.alloc (.cells #[] 22))) := Lib.hid ((Below.refl _ _).alloc (Nat.le_refl _) _)
            have NEWS1 : Hid (∀ (j : Nat) (u : Value), ((L.map encV).take i)[j]? = some u → (wr.alloc (.cells #[] 22)).cell? ((⟨g, 0, none⟩ : Addr).add j) = some u) := Lib.hid (fun j u hj => by
              have hji : j < i := by
                rcases Nat.lt_or_ge j i with h | h
                · exact h
                · rw [List.getElem?_eq_none (by simp; omega)] at hj; cases hj
              rw [List.getElem?_take_of_lt hji, map_at (by omega)] at hj
              cases hj
              rw [addr_add, Nat.zero_add, (O5.out.below b1.out).own.cellAt j (by omega), map_at (by omega)])
            go_wp2_with (first | (at_builtin; refine wpList_append_own _ rfl _ _ 32 rfl wr.heap.size 22 i0 (.slice none 0 0) 1 24 Tryd.underlying32 I.out Z0.out Z1.out Z2.out rfl (by decide) _ _ _ rfl LT.out ⟨g, 0, none⟩ i c ((L.map encV).take i) rfl (by simp; omega) NEWS1.out ?a2x ?a3x ?a4x ?a5x ?_))
            case a2x => intro u hu; obtain ⟨x, _, rfl⟩ := List.mem_map.1 (List.mem_of_mem_take hu); rfl
            case a3x => unfold maxLen; omega
            case a4x => omega
            intro v1 w6 hown1 hgrow1 _
            have b6 : Hid (Below wr.heap.size wr w6) := Lib.hid (b1.out.grown hgrow1 (by simp) (fun k hk => (LT.out.lt k hk).1))
            have O6 := Lib.hid hown1
            have s6 := b6.out.size
            clear hown1 hgrow1
            go_wp2_with (first | (at_builtin; refine wpList_append_own _ rfl _ _ 32 rfl wr.heap.size 22 i0 (.slice none 0 0) 1 24 Tryd.underlying32 I.out Z0.out Z1.out Z2.out rfl (by decide) _ _ _ rfl (O6.out.alloc _) ⟨w6.heap.size, 0, none⟩ 1 1 [.slice xa xz.length xc] rfl rfl ?f1x ?f2x ?f3x ?f4x ?f5x ?_))
            case f1x =>
              intro j u hj
              match j, hj with
              | 0, hj => simp at hj; subst hj; simp [Addr.add]
            case f2x => intro u hu; simp at hu; subst hu; rfl
            case f3x => unfold maxLen; omega
            case f4x => omega
            case f5x => simp; omega
            intro v2 w7 hown2 hgrow2 _
            have b7 : Hid (Below wr.heap.size wr w7) := Lib.hid ((b6.out.alloc s6 _).grown hgrow2 (by simp; omega) (fun k hk => (O6.out.lt k hk).1))
            have O7 := Lib.hid hown2
            have OUT7 := Lib.hid (O5.out.below b7.out)
            have s7 := b7.out.size
            clear hown2 hgrow2
            by_cases hci : c = i
            · obtain rfl : i = c := hci.symm
              have hLi' : L.length ≤ i := by omega
              obtain ⟨m, hm⟩ : ∃ m, L.length - i = m := ⟨_, rfl⟩
              have NEWS3 : Hid (∀ (j : Nat) (u : Value), ((L.map encV).drop i)[j]? = some u → w7.cell? ((⟨g, 0, none⟩ : Addr).add j) = some u) := Lib.hid (fun j u hj => by
                rw [List.getElem?_eq_none (by simp; omega)] at hj; cases hj)
              have HMl : Hid (((L.map encV).drop i).length = m * 1) := Lib.hid (by simp; omega)
              have hm1 : m ≤ 1000 := by omega
              have HM := Lib.hid hm
              go_wp2_with (first | (at_builtin; refine wpList_append_own _ rfl _ _ 32 rfl wr.heap.size 22 i0 (.slice none 0 0) 1 24 Tryd.underlying32 I.out Z0.out Z1.out Z2.out rfl (by decide) _ _ _ rfl O7.out ⟨g, 0, none⟩ m 0 ((L.map encV).drop i) ?h0xn HMl.out NEWS3.out ?h2xn ?h3xn ?h4xn ?h5xn ?_))
              case h2xn => intro u hu; obtain ⟨x, _, rfl⟩ := List.mem_map.1 (List.mem_of_mem_drop hu); rfl
              case h3xn => unfold maxLen; omega
              case h4xn => omega
              intro v3 w8 hown3 hgrow3 _
              obtain ⟨g3, c3, hv3, hg3, _⟩ := hown3.form (by omega)
              have b8 : Hid (Below wr.heap.size wr w8) := Lib.hid (b7.out.grown hgrow3 s7 (fun k hk => (O7.out.lt k hk).1))
              have BE8 : Hid (Below B w w8) := Lib.hid (BEL5.out.trans (b8.out.mono (HBr _ BEL5.out)))
              have OU8 : Hid (OutAt B w8 g3 c3 (L.take i ++ (xa, xz, xc) :: L.drop i)) := Lib.hid ⟨by
                have h9 := hown3.mono (HBr _ BEL5.out)
                rw [hv3] at h9
                have e1 : (L.map encV).take i ++ Value.slice xa xz.length xc :: (L.map encV).drop i = (L.take i ++ (xa, xz, xc) :: L.drop i).map encV := by simp [encV]
                rw [LL.out]
                rw [e1, show i + 1 + m = L.length + 1 by have := HM.out; omega] at h9
                exact h9⟩
              subst hv3
              rw [show i + 1 + m = L.length + 1 by omega]
              clear hown3 hgrow3 hm
              rw [← LL.out]
              obtain ⟨LL', hLL'⟩ : ∃ l, L.take i ++ (xa, xz, xc) :: L.drop i = l := ⟨_, rfl⟩
              have hl8 : LL'.length ≤ k + 1 := by rw [← hLL', LL.out]; omega
              rw [hLL'] at IE OU8 LN ⊢
              clear hLL' NEWS3 HMl
              go_wp2_with fail
              go_roundw
              case rel => exact ⟨k + 1, g3, c3, LL', by omega, by go_num, rfl, hl8, IE, LN, OU8, BE8⟩
              case measure => simp [intOf]; omega
            · obtain ⟨m, hm⟩ : ∃ m, L.length - i = m := ⟨_, rfl⟩
              have NEWS3 : Hid (∀ (j : Nat) (u : Value), ((L.map encV).drop i)[j]? = some u → w7.cell? ((⟨g, i, none⟩ : Addr).add j) = some u) := Lib.hid (fun j u hj => by
                have hji : j < L.length - i := by
                  rcases Nat.lt_or_ge j (L.length - i) with h | h
                  · exact h
                  · rw [List.getElem?_eq_none (by simp; omega)] at hj; cases hj
                rw [List.getElem?_drop, map_at (by omega)] at hj
                cases hj
                rw [addr_add, OUT7.out.own.cellAt (i + j) (by omega), map_at (by omega)])
              have HMl : Hid (((L.map encV).drop i).length = m * 1) := Lib.hid (by simp; omega)
              have hm1 : m ≤ 1000 := by omega
              have HM := Lib.hid hm
              go_wp2_with (first | (at_builtin; refine wpList_append_own _ rfl _ _ 32 rfl wr.heap.size 22 i0 (.slice none 0 0) 1 24 Tryd.underlying32 I.out Z0.out Z1.out Z2.out rfl (by decide) _ _ _ rfl O7.out ⟨g, i, none⟩ m (c - i) ((L.map encV).drop i) ?h0x HMl.out NEWS3.out ?h2x ?h3x ?h4x ?h5x ?_))
              case h0x => rw [← HM.out]; rfl
              case h2x => intro u hu; obtain ⟨x, _, rfl⟩ := List.mem_map.1 (List.mem_of_mem_drop hu); rfl
              case h3x => unfold maxLen; omega
              case h4x => omega
              case h5x => exact s7
              intro v3 w8 hown3 hgrow3 _
              obtain ⟨g3, c3, hv3, hg3, _⟩ := hown3.form (by omega)
              have b8 : Hid (Below wr.heap.size wr w8) := Lib.hid (b7.out.grown hgrow3 s7 (fun k hk => (O7.out.lt k hk).1))
              have BE8 : Hid (Below B w w8) := Lib.hid (BEL5.out.trans (b8.out.mono (HBr _ BEL5.out)))
              have OU8 : Hid (OutAt B w8 g3 c3 (L.take i ++ (xa, xz, xc) :: L.drop i)) := Lib.hid ⟨by
                have h9 := hown3.mono (HBr _ BEL5.out)
                rw [hv3] at h9
                have e1 : (L.map encV).take i ++ Value.slice xa xz.length xc :: (L.map encV).drop i = (L.take i ++ (xa, xz, xc) :: L.drop i).map encV := by simp [encV]
                rw [LL.out]
                rw [e1, show i + 1 + m = L.length + 1 by have := HM.out; omega] at h9
                exact h9⟩
              subst hv3
              rw [show i + 1 + m = L.length + 1 by omega]
              clear hown3 hgrow3 hm
              rw [← LL.out]
              obtain ⟨LL', hLL'⟩ : ∃ l, L.take i ++ (xa, xz, xc) :: L.drop i = l := ⟨_, rfl⟩
              have hl8 : LL'.length ≤ k + 1 := by rw [← hLL', LL.out]; omega
              rw [hLL'] at IE OU8 LN ⊢
              clear hLL' NEWS3 HMl
              go_wp2_with fail
              go_roundw
              case rel => exact ⟨k + 1, g3, c3, LL', by omega, by go_num, rfl, hl8, IE, LN, OU8, BE8⟩
              case measure => simp [intOf]; omega
      · have t1 : ((xz.length : Int) != (wd : Int)) = true := by simp; omega
        have RI : Hid (relOf wd ((A.take (k + 1)).map (·.2.1)) = L.map (·.2.1)) := Lib.hid (by rw [RT.out, if_neg (by omega), HE.out])
        clear hw
        go_wp2_with fail
        go_roundw
        case rel => exact ⟨k + 1, g, c, L, by omega, by go_num, rfl, by omega, Lib.hid RI.out.symm, HLA, HO, HBe⟩
        case measure => simp [intOf]; omega
    · obtain rfl : k = A.length := by omega
      have HRR : Hid (RRow wr (some ⟨g, 0, none⟩) L) := Lib.hid (by
        obtain ⟨a9, c9, h9, hr9⟩ := rrow_of_owns HO.out.own (fun x hx => ⟨(HR.out.2 x (HLA.out x hx)).1.belowB HB.out HBe.out, (HR.out.2 x (HLA.out x hx)).2⟩)
        simp only [Value.slice.injEq] at h9
        rw [h9.1]; exact hr9)
      have HE2 : Hid (L.map (·.2.1) = relOf wd (A.map (·.2.1))) := Lib.hid (by have := HE.out; rw [List.take_length] at this; exact this)
      go_wp2_with fail
      go_ret
      exact ⟨_, c, L, rfl, HE2.out, HRR.out, HLA.out, by rw [HB.out]; exact HBe.out⟩
theorem sorted_calls (wd : Nat) (a : Option Addr) (cap : Nat) (A : List RV) (w : World) (hR : RRow w a A) (hwd : wd ≤ 1000) (hA : A.length ≤ 1000) (hlen : ∀ x ∈ A, x.2.1.length ≤ 1000000) :
    Calls Tryd.prog 37 #[.int .i64 wd, .slice a A.length cap] w (SortRet w wd A) :=
  (sorted_calls2 wd a cap A w hR hwd hA hlen).mono fun e w' ⟨g, c, L, h1, h2, h3, h4, h5⟩ => ⟨_, c, L, h1, h2, h3, h4, h5⟩
end Go.Proofs.YtcecndjkfdaaaaaDoor
