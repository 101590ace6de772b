/- JoinPairs, walked. -/
import Derived.Test.YtcecndjkfdaaaaaJn15
namespace Go.Proofs.Ytcecndjkfdaaaaa
open Go.RowKit Go.Shelf
set_option linter.unusedVariables false
set_option linter.unusedSimpArgs false

structure SideArgs (w : World) (a b c d : Option Addr) (A D : List RV) (KA KB : List Int) : Prop where
  hA : NestArgs w a A
  hD : NestArgs w b D
  hKA : Row w c KA
  hKB : Row w d KB
/-- The box of two sides. -/
structure SBox (g : Nat) (W : World) (wi wj : Int) (a b c d : Option Addr) (A D : List RV) (KA KB : List Int) (ca cb cc cd : Nat) : Prop where
  c0 : W.cell? ⟨g, 0, none⟩ = some (.int .i64 wi)
  c1 : W.cell? ⟨g, 1, none⟩ = some (.int .i64 wj)
  c2 : W.cell? ⟨g, 2, none⟩ = some (.slice a A.length ca)
  c3 : W.cell? ⟨g, 3, none⟩ = some (.slice b D.length cb)
  c4 : W.cell? ⟨g, 4, none⟩ = some (.slice c KA.length cc)
  c5 : W.cell? ⟨g, 5, none⟩ = some (.slice d KB.length cd)
  lt : g < W.heap.size
theorem SBox.below {g : Nat} {W W' : World} {wi wj : Int} {a b c d : Option Addr} {A D : List RV} {KA KB : List Int} {ca cb cc cd : Nat} (h : SBox g W wi wj a b c d A D KA KB ca cb cc cd) (hb : Below W.heap.size W W') : SBox g W' wi wj a b c d A D KA KB ca cb cc cd :=
  ⟨(hb.cell (p := ⟨g, 0, none⟩) h.lt).trans h.c0, (hb.cell (p := ⟨g, 1, none⟩) h.lt).trans h.c1, (hb.cell (p := ⟨g, 2, none⟩) h.lt).trans h.c2, (hb.cell (p := ⟨g, 3, none⟩) h.lt).trans h.c3, (hb.cell (p := ⟨g, 4, none⟩) h.lt).trans h.c4, (hb.cell (p := ⟨g, 5, none⟩) h.lt).trans h.c5, Nat.lt_of_lt_of_le h.lt hb.size⟩
/-- What stands all through a law over two sides. -/
structure JS (B : Nat) (w W : World) (wi wj : Int) (a b c d : Option Addr) (A D : List RV) (KA KB : List Int) (ca cb cc cd : Nat) : Prop where
  box : SBox B W wi wj a b c d A D KA KB ca cb cc cd
  bel : Below B w W
  ka : Row W c KA
  kb : Row W d KB
theorem JS.next {B : Nat} {w W W' : World} {wi wj : Int} {a b c d : Option Addr} {A D : List RV} {KA KB : List Int} {ca cb cc cd : Nat} (h : JS B w W wi wj a b c d A D KA KB ca cb cc cd) (hb : Below W.heap.size W W') : JS B w W' wi wj a b c d A D KA KB ca cb cc cd :=
  ⟨h.box.below hb, h.bel.trans (hb.mono (Nat.le_of_lt h.box.lt)), h.ka.below hb, h.kb.below hb⟩
theorem JS.new {B : Nat} {w : World} (hB : w.heap.size = B) (wi wj : Int) {a b c d : Option Addr} {A D : List RV} {KA KB : List Int} (ca cb cc cd : Nat) (h : SideArgs w a b c d A D KA KB) :
    JS B w (w.alloc (.cells #[.int .i64 wi, .int .i64 wj, .slice a A.length ca, .slice b D.length cb, .slice c KA.length cc, .slice d KB.length cd] 25)) wi wj a b c d A D KA KB ca cb cc cd := by
  subst hB
  exact ⟨⟨by go_simp, by go_simp, by go_simp, by go_simp, by go_simp, by go_simp, by simp⟩, (Below.refl _ _).alloc (Nat.le_refl _) _, h.hKA.alloc _, h.hKB.alloc _⟩
theorem PRow.drewN {w : World} {a : Option Addr} {ps : List (Int × Int)} (h : PRow w a ps) (q : Nat) : PRow (w.drewN q) a ps := h.below (below_drewN (Below.refl _ _) q)
theorem pairs_le {kas kbs : List (List Int)} (h1 : kas.length ≤ 60) (h2 : kbs.length ≤ 60) : (pairsOf kas kbs).length ≤ 3600 := by
  have := pairsTo_len kas kbs kas.length
  have h3 : kas.length * kbs.length ≤ 60 * 60 := Nat.mul_le_mul h1 h2
  unfold pairsOf; omega
set_option maxRecDepth 100000 in
set_option maxHeartbeats 4000000 in
theorem joinPairs_walk {w : World} {a b c d : Option Addr} {A D : List RV} {KA KB : List Int} (wi wj : Int) (ca cb cc cd : Nat) (m : Int) (hS : SideArgs w a b c d A D KA KB) :
    Calls Try.prog 3 #[sidesV wi wj a b c d A D KA KB ca cb cc cd, .int .i64 m] w (TrueRet5 w) := by
  obtain ⟨B, hB⟩ : ∃ B, w.heap.size = B := ⟨_, rfl⟩
  have HB := Lib.hid hB
  have HS := Lib.hid hS
  have J0 := Lib.hid (JS.new hB wi wj ca cb cc cd hS)
  unfold sidesV
  go_enter Try.func3, Try.ntmps3
  go_wp2_with fail
  clear hB hS
  generalize World.alloc w _ = W0 at *
  refine (head8_calls W0).mono ?_
  rintro e W1 ⟨rfl, hb1⟩
  have J1 := Lib.hid (J0.out.next hb1)
  clear hb1 J0
  obtain ⟨c0, c1, c2, c3, c4, c5, _⟩ := J1.out.box
  go_wp2_with fail
  have cf := sidesFew_calls (KA := KA) (KB := KB) (c := c) (d := d) wi wj ca cb cc cd HS.out.hA HS.out.hD HB.out J1.out.bel (Nat.le_of_lt J1.out.box.lt)
  unfold sidesV at cf
  clear c0 c1 c2 c3 c4 c5
  cases hf : sidesFew A D KA KB
  · rw [hf] at cf
    refine cf.mono ?_
    rintro e W2 ⟨rfl, hb2⟩
    have J2 := Lib.hid (J1.out.next hb2)
    clear hb2 J1 cf
    go_wp2_with fail
    go_ret
    exact ⟨rfl, by rw [HB.out]; exact J2.out.bel⟩
  · rw [hf] at cf
    refine cf.mono ?_
    rintro e W2 ⟨rfl, hb2⟩
    have J2 := Lib.hid (J1.out.next hb2)
    obtain ⟨fA, fD, hka, hkb⟩ := sidesFew_true hf
    clear hb2 J1 cf hf
    obtain ⟨c0, c1, c2, c3, c4, c5, _⟩ := J2.out.box
    obtain ⟨n1, hn1, e1⟩ := width5 wi
    obtain ⟨n2, hn2, e2⟩ := width5 wj
    go_wp2_with fail
    have cm := sidesMake_calls (KA := KA) (KB := KB) (c := c) (d := d) wi wj n1 n2 hn1 hn2 e1 e2 ca cb cc cd HS.out.hA HS.out.hD HB.out J2.out.bel (Nat.le_of_lt J2.out.box.lt) (few_ok fA) (few_ok fD)
    unfold sidesV at cm
    clear c0 c1 c2 c3 c4 c5 e1 e2
    generalize relOf (n1 : Int) (A.map (·.2.1)) = xs at *
    generalize relOf (n2 : Int) (D.map (·.2.1)) = ys at *
    refine cm.mono ?_
    rintro e W3 ⟨p, o, rfl, hp3, ho3, hb3⟩
    have J3 := Lib.hid (J2.out.next hb3)
    have P3 := Lib.hid hp3
    have O3 := Lib.hid ho3
    have hxl : xs.length ≤ 60 := hp3.2
    have hyl : ys.length ≤ 60 := ho3.2
    have PL : Hid ((pairsOf (xs.map fun r => keyL r KA) (ys.map fun r => keyL r KB)).length ≤ 3600) := Lib.hid (pairs_le (by simpa using hxl) (by simpa using hyl))
    clear hp3 ho3 hb3 J2 cm
    obtain ⟨c0, c1, c2, c3, c4, c5, _⟩ := J3.out.box
    have cw := pairs_calls P3.out.1 O3.out.1 c d cc cd KA KB J3.out.ka J3.out.kb (by omega) (by omega) (by omega) (by omega) (by omega) (by omega)
    go_wp2_with fail
    refine cw.mono ?_
    rintro e W4 ⟨qa, qc, rfl, hq4, hb4⟩
    have J4 := Lib.hid (J3.out.next hb4)
    have P4 := Lib.hid (P3.out.below hb4)
    have O4 := Lib.hid (O3.out.below hb4)
    have Q4 := Lib.hid hq4
    clear hq4 hb4 J3 P3 O3 cw c0 c1 c2 c3 c4 c5
    obtain ⟨c0, c1, c2, c3, c4, c5, _⟩ := J4.out.box
    have ch := hash_join P4.out.1 O4.out.1 c d cc cd KA KB J4.out.ka J4.out.kb (by omega) (by omega) (by omega) (by omega) (by omega) (by omega)
    generalize hPS : pairsOf (xs.map fun r => keyL r KA) (ys.map fun r => keyL r KB) = ps at *
    have HPS := Lib.hid hPS
    clear hPS
    go_wp2_with fail
    refine ch.mono ?_
    rintro e W5 ⟨ra, rc, rfl, hr5, hb5⟩
    have J5 := Lib.hid (J4.out.next hb5)
    have P5 := Lib.hid (P4.out.below hb5)
    have O5 := Lib.hid (O4.out.below hb5)
    have Q5 := Lib.hid (Q4.out.below hb5)
    have cs := same_calls (ca := rc) (cb := qc) hr5 Q5.out (by have := PL.out; omega)
    clear hr5 hb5 J4 P4 O4 Q4 ch c0 c1 c2 c3 c4 c5
    go_wp2_with fail
    refine cs.mono ?_
    rintro e w9 ⟨rfl, q5, rfl⟩
    have hq5 := below_drewN (Below.refl W5.heap.size W5) q5
    have J6 := Lib.hid (J5.out.next hq5)
    have P6 := Lib.hid (P5.out.below hq5)
    have O6 := Lib.hid (O5.out.below hq5)
    have Q6 := Lib.hid (Q5.out.below hq5)
    clear hq5 J5 P5 O5 Q5 cs
    generalize W5.drewN q5 = W6 at *
    obtain ⟨c0, c1, c2, c3, c4, c5, _⟩ := J6.out.box
    have cg := merge_join P6.out.1 O6.out.1 c d cc cd KA KB J6.out.ka J6.out.kb (by omega) (by omega) (by omega) (by omega) (by omega) (by omega)
    rw [HPS.out] at cg
    go_wp2_with fail
    refine cg.mono ?_
    rintro e W7 ⟨sa, sc, rfl, hr7, hb7⟩
    have J7 := Lib.hid (J6.out.next hb7)
    have P7 := Lib.hid (P6.out.below hb7)
    have O7 := Lib.hid (O6.out.below hb7)
    have Q7 := Lib.hid (Q6.out.below hb7)
    have cs := same_calls (ca := sc) (cb := qc) hr7 Q7.out (by have := PL.out; omega)
    clear hr7 hb7 J6 P6 O6 Q6 cg c0 c1 c2 c3 c4 c5
    go_wp2_with fail
    refine cs.mono ?_
    rintro e w9 ⟨rfl, q7, rfl⟩
    have hq7 := below_drewN (Below.refl W7.heap.size W7) q7
    have J8 := Lib.hid (J7.out.next hq7)
    have P8 := Lib.hid (P7.out.below hq7)
    have O8 := Lib.hid (O7.out.below hq7)
    have Q8 := Lib.hid (Q7.out.below hq7)
    clear hq7 J7 P7 O7 Q7 cs
    generalize W7.drewN q7 = W8 at *
    obtain ⟨c0, c1, c2, c3, c4, c5, _⟩ := J8.out.box
    have cg := do_join P8.out.1 O8.out.1 c d cc cd KA KB J8.out.ka J8.out.kb (by omega) (by omega) (by omega) (by omega) (by omega) (by omega) m
    rw [HPS.out] at cg
    go_wp2_with fail
    refine cg.mono ?_
    rintro e W9 ⟨ta, tc, rfl, hr9, hb9⟩
    have J9 := Lib.hid (J8.out.next hb9)
    have Q9 := Lib.hid (Q8.out.below hb9)
    have cs := same_calls (ca := tc) (cb := qc) hr9 Q9.out (by have := PL.out; omega)
    clear hr9 hb9 J8 P8 O8 Q8 cg c0 c1 c2 c3 c4 c5
    go_wp2_with fail
    refine cs.mono ?_
    rintro e w9 ⟨rfl, q9, rfl⟩
    have J10 := Lib.hid (below_drewN J9.out.bel q9)
    clear cs
    go_wp2_with fail
    go_ret
    exact ⟨rfl, by rw [HB.out]; exact J10.out⟩
end Go.Proofs.Ytcecndjkfdaaaaa
