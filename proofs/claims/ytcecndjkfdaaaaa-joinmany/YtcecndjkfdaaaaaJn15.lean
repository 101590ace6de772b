/- The laws' head, Few and Make of two sides. -/
import Derived.Test.YtcecndjkfdaaaaaJn14
import Derived.Test.YtcecndjkfdaaaaaJn9
import Derived.Test.YtcecndjkfdaaaaaJn10
import Derived.Deep.RegionHeld3
namespace Go.Proofs.Ytcecndjkfdaaaaa
open Go.RowKit Go.Shelf
set_option linter.unusedVariables false
set_option linter.unusedSimpArgs false

theorem head8_ra : relOf ((2 : Nat) : Int) [[1, 7], [2, 8]] = [[1, 7], [2, 8]] := by decide
theorem head8_rb : relOf ((2 : Nat) : Int) [[7, 1], [7, 2]] = [[7, 1], [7, 2]] := by decide
theorem head8_ka : ([[1, 7], [2, 8]] : List (List Int)).map (fun r => keyL r [1]) = [[7], [8]] := by decide
theorem head8_kb : ([[7, 1], [7, 2]] : List (List Int)).map (fun r => keyL r [0]) = [[7], [7]] := by decide
theorem head8_ps : pairsOf [[7], [8]] [[7], [7]] = [(0, 0), (0, 1)] := by decide
/-- A literal of two rows of two numbers, made a relation. -/
theorem lit22 {w : World} {B : Nat} (hB : w.heap.size = B) (x1 y1 x2 y2 : Int) :
    RRow (((w.alloc (.cells #[.int .i64 x1, .int .i64 y1] 2)).alloc (.cells #[.int .i64 x2, .int .i64 y2] 2)).alloc (.cells #[.slice (some ⟨B, 0, none⟩) 2 2, .slice (some ⟨B + 1, 0, none⟩) 2 2] 40)) (some ⟨B + 1 + 1, 0, none⟩) [(some ⟨B, 0, none⟩, [x1, y1], 2), (some ⟨B + 1, 0, none⟩, [x2, y2], 2)] ∧
    Below B w (((w.alloc (.cells #[.int .i64 x1, .int .i64 y1] 2)).alloc (.cells #[.int .i64 x2, .int .i64 y2] 2)).alloc (.cells #[.slice (some ⟨B, 0, none⟩) 2 2, .slice (some ⟨B + 1, 0, none⟩) 2 2] 40)) := by
  refine ⟨⟨.inr ⟨B + 1 + 1, 0, rfl, by simp; omega, fun i hi => ?_⟩, fun x hx => ?_⟩, (((Below.refl _ _).alloc (by omega) _).alloc (by simp; omega) _).alloc (by simp; omega) _⟩
  · match i, hi with
    | 0, _ => subst hB; go_simp; rfl
    | 1, _ => subst hB; go_simp; rfl
  · simp only [List.mem_cons, List.not_mem_nil, or_false] at hx
    rcases hx with rfl | rfl
    · exact ⟨row2 (by subst hB; go_simp) (by subst hB; go_simp) (by simp; omega), by simp⟩
    · exact ⟨row2 (by subst hB; go_simp) (by subst hB; go_simp) (by simp; omega), by simp⟩
set_option maxRecDepth 100000 in
set_option maxHeartbeats 2000000 in
theorem head8_calls (w : World) : Calls Try.prog 12 #[] w (TrueRet5 w) := by
  obtain ⟨B, hB⟩ : ∃ B, w.heap.size = B := ⟨_, rfl⟩
  have HB := Lib.hid hB
  have HL := Lib.hid (lit22 hB 1 7 2 8)
  go_enter Try.func12, Try.ntmps12
  go_wp2_with fail
  clear hB
  generalize World.alloc (World.alloc (World.alloc _ _) _) _ = W at *
  refine (make_calls 2 _ 2 _ W HL.out.1 (by omega) (by simp) (by simp)).mono ?_
  rintro e w1 ⟨p1, rfl, hs1, hb1⟩
  have hs1' : Seg w1 p1 2 [[1, 7], [2, 8]] := by
    have := hs1
    simp only [List.map_cons, List.map_nil] at this
    rw [head8_ra] at this; exact this
  have S1 := Lib.hid hs1'
  have B1 : Hid (Below B w w1) := Lib.hid (HL.out.2.trans (hb1.mono (by have := HL.out.2.size; rw [HB.out] at this; exact this)))
  clear hs1 hs1' hb1 HL
  obtain ⟨D, hD⟩ : ∃ D, w1.heap.size = D := ⟨_, rfl⟩
  have HD := Lib.hid hD
  have HL2 := Lib.hid (lit22 hD 7 1 7 2)
  go_wp2_with fail
  clear hD
  generalize World.alloc (World.alloc (World.alloc _ _) _) _ = W2 at *
  refine (make_calls 2 _ 2 _ W2 HL2.out.1 (by omega) (by simp) (by simp)).mono ?_
  rintro e w3 ⟨p2, rfl, hs2, hb2⟩
  have hs2' : Seg w3 p2 2 [[7, 1], [7, 2]] := by
    have := hs2
    simp only [List.map_cons, List.map_nil] at this
    rw [head8_rb] at this; exact this
  have S2 := Lib.hid hs2'
  have D3 : Hid (Below D w1 w3) := Lib.hid (HL2.out.2.trans (hb2.mono (by have := HL2.out.2.size; rw [HD.out] at this; exact this)))
  have S3 := Lib.hid (S1.out.belowB HD.out D3.out)
  have B3 : Hid (Below B w w3) := Lib.hid (B1.out.trans (D3.out.mono (by have := B1.out.size; rw [HB.out, HD.out] at this; exact this)))
  clear hs2 hs2' hb2 HL2 S1 B1 D3 HD
  go_wp2_with fail
  obtain ⟨E, hE⟩ : ∃ E, w3.heap.size = E := ⟨_, rfl⟩
  have HE := Lib.hid hE
  have BE : Below E w3 ((w3.alloc (.cells #[.int .i64 1] 3)).alloc (.cells #[.int .i64 0] 3)) := ((Below.refl _ _).alloc (by omega) _).alloc (by simp; omega) _
  have Q1 := Lib.hid ((row1_new w3 1 3).alloc (.cells #[.int .i64 0] 3))
  have Q2 := Lib.hid (row1_new (w3.alloc (.cells #[.int .i64 1] 3)) 0 3)
  have S4 := Lib.hid (S3.out.belowB HE.out BE)
  have S5 := Lib.hid (S2.out.belowB HE.out BE)
  have B5 : Hid (Below B w ((w3.alloc (.cells #[.int .i64 1] 3)).alloc (.cells #[.int .i64 0] 3))) := Lib.hid (B3.out.trans (BE.mono (by have := B3.out.size; rw [HB.out, HE.out] at this; exact this)))
  rw [show (w3.alloc (.cells #[.int .i64 1] 3)).heap.size = w3.heap.size + 1 by simp] at Q2
  clear BE hE S2 S3 B3
  generalize World.alloc (World.alloc _ _) _ = W6 at *
  have ch := hash_join S4.out S5.out _ _ 1 1 [1] [0] Q1.out Q2.out (by simp) (by simp) (by omega) (by omega) (by simp) (by simp)
  rw [head8_ka, head8_kb, head8_ps] at ch
  refine ch.mono ?_
  rintro e w7 ⟨a7, c7, rfl, hr7, hb7⟩
  obtain ⟨b7, o7, rfl, _, hc0, hc1⟩ := hr7.at (i := 1) (by simp)
  have hc0' : w7.cell? ⟨b7, o7 + 2, none⟩ = some (.int .i64 0) := hc0
  have hc1' : w7.cell? ⟨b7, o7 + 2 + 1, none⟩ = some (.int .i64 1) := hc1
  have B7 : Hid (Below B w w7) := Lib.hid (B5.out.trans (hb7.mono (by have := B5.out.size; rw [HB.out] at this; exact this)))
  clear ch hr7 hb7 hc0 hc1 S4 S5 B5 Q1 Q2
  go_wp2_with fail
  go_ret
  exact ⟨rfl, by rw [HB.out]; exact B7.out⟩

/-- Two sides, as their value. -/
def sidesV (wi wj : Int) (a b c d : Option Addr) (A D : List RV) (KA KB : List Int) (ca cb cc cd : Nat) : Value := .agg #[.int .i64 wi, .int .i64 wj, .slice a A.length ca, .slice b D.length cb, .slice c KA.length cc, .slice d KB.length cd]
def sidesFew (A D : List RV) (KA KB : List Int) : Bool := fewB A && fewB D && decide (KA.length ≤ 5) && decide (KB.length ≤ 5)
theorem sidesFew_true {A D : List RV} {KA KB : List Int} (h : sidesFew A D KA KB = true) : fewB A = true ∧ fewB D = true ∧ KA.length ≤ 5 ∧ KB.length ≤ 5 := by
  simp only [sidesFew, Bool.and_eq_true, decide_eq_true_eq] at h
  exact ⟨h.1.1.1, h.1.1.2, h.1.2, h.2⟩
def FewRet (b : Bool) (w : World) (e : Ending) (w' : World) : Prop := e = .returned (.bool b) ∧ Below w.heap.size w w'
set_option maxRecDepth 100000 in
set_option maxHeartbeats 2000000 in
theorem sidesFew_calls {w W : World} {B : Nat} {a b c d : Option Addr} {A D : List RV} {KA KB : List Int} (wi wj : Int) (ca cb cc cd : Nat) (hA : NestArgs w a A) (hD : NestArgs w b D) (hB : w.heap.size = B) (hb : Below B w W) (hBW : B ≤ W.heap.size) :
    Calls Try.prog 13 #[sidesV wi wj a b c d A D KA KB ca cb cc cd] W (FewRet (sidesFew A D KA KB) W) := by
  have b0 : Below B w (W.alloc (.cells #[.int .i64 wi, .int .i64 wj, .slice a A.length ca, .slice b D.length cb, .slice c KA.length cc, .slice d KB.length cd] 25)) := hb.alloc hBW _
  have fa := few_w (W := W.alloc (.cells #[.int .i64 wi, .int .i64 wj, .slice a A.length ca, .slice b D.length cb, .slice c KA.length cc, .slice d KB.length cd] 25)) ca hA hB b0
  have fb := few_w (W := W.alloc (.cells #[.int .i64 wi, .int .i64 wj, .slice a A.length ca, .slice b D.length cb, .slice c KA.length cc, .slice d KB.length cd] 25)) cb hD hB b0
  have R := Lib.hid ((Below.refl W.heap.size W).alloc (Nat.le_refl _) (.cells #[.int .i64 wi, .int .i64 wj, .slice a A.length ca, .slice b D.length cb, .slice c KA.length cc, .slice d KB.length cd] 25))
  clear hA hD hb b0
  unfold sidesV
  cases hfa : fewB A
  · rw [hfa] at fa
    go_enter Try.func13, Try.ntmps13
    go_wp2_with fail
    refine fa.mono ?_
    rintro e w' ⟨rfl, rfl⟩
    go_wp2_with fail
    go_ret
    exact ⟨by simp [sidesFew, hfa], R.out⟩
  · rw [hfa] at fa
    cases hfb : fewB D
    · rw [hfb] at fb
      go_enter Try.func13, Try.ntmps13
      go_wp2_with fail
      refine fa.mono ?_
      rintro e w' ⟨rfl, rfl⟩
      go_wp2_with fail
      refine fb.mono ?_
      rintro e w' ⟨rfl, rfl⟩
      go_wp2_with fail
      go_ret
      exact ⟨by simp [sidesFew, hfa, hfb], R.out⟩
    · rw [hfb] at fb
      by_cases hka : KA.length ≤ 5
      · by_cases hkb : KB.length ≤ 5
        · have t1 : decide ((KA.length : Int) ≤ 5) = true := decide_eq_true (by omega)
          have t2 : decide ((KB.length : Int) ≤ 5) = true := decide_eq_true (by omega)
          have hfin : sidesFew A D KA KB = true := by simp [sidesFew, hfa, hfb, hka, hkb]
          rw [hfin]
          clear hfin
          go_enter Try.func13, Try.ntmps13
          go_wp2_with fail
          refine fa.mono ?_
          rintro e w' ⟨rfl, rfl⟩
          go_wp2_with fail
          refine fb.mono ?_
          rintro e w' ⟨rfl, rfl⟩
          go_wp2_with fail
          go_ret
          exact ⟨rfl, R.out⟩
        · have t1 : decide ((KA.length : Int) ≤ 5) = true := decide_eq_true (by omega)
          have t2 : decide ((KB.length : Int) ≤ 5) = false := decide_eq_false (by omega)
          have hfin : sidesFew A D KA KB = false := by simp [sidesFew, hfa, hfb, hka, hkb]
          rw [hfin]
          clear hfin
          go_enter Try.func13, Try.ntmps13
          go_wp2_with fail
          refine fa.mono ?_
          rintro e w' ⟨rfl, rfl⟩
          go_wp2_with fail
          refine fb.mono ?_
          rintro e w' ⟨rfl, rfl⟩
          go_wp2_with fail
          go_ret
          exact ⟨rfl, R.out⟩
      · have t1 : decide ((KA.length : Int) ≤ 5) = false := decide_eq_false (by omega)
        have hfin : sidesFew A D KA KB = false := by simp [sidesFew, hfa, hfb, hka]
        rw [hfin]
        clear hfin
        go_enter Try.func13, Try.ntmps13
        go_wp2_with fail
        refine fa.mono ?_
        rintro e w' ⟨rfl, rfl⟩
        go_wp2_with fail
        refine fb.mono ?_
        rintro e w' ⟨rfl, rfl⟩
        go_wp2_with fail
        go_ret
        exact ⟨rfl, R.out⟩
def SidesRet (n1 n2 : Nat) (xs ys : List (List Int)) (w : World) (e : Ending) (w' : World) : Prop := ∃ p o, e = .returned (.tuple #[.pointer p, .pointer o]) ∧ SB 60 w' p n1 xs ∧ SB 60 w' o n2 ys ∧ Below w.heap.size w w'
theorem held4 {W0 : World} {g C : Nat} {v0 v1 v2 v3 : Value} {w1 w2 : World} (hg : g < C) (h : w1.cell? ⟨g, 0, none⟩ = some v0 ∧ w1.cell? ⟨g, 1, none⟩ = some v1 ∧ w1.cell? ⟨g, 2, none⟩ = some v2 ∧ w1.cell? ⟨g, 3, none⟩ = some v3 ∧ Below C W0 w1 ∧ C ≤ w1.heap.size) (hb : Below w1.heap.size w1 w2) :
    w2.cell? ⟨g, 0, none⟩ = some v0 ∧ w2.cell? ⟨g, 1, none⟩ = some v1 ∧ w2.cell? ⟨g, 2, none⟩ = some v2 ∧ w2.cell? ⟨g, 3, none⟩ = some v3 ∧ Below C W0 w2 ∧ C ≤ w2.heap.size := by
  obtain ⟨h0, h1, h2, h3, h4, h5⟩ := h
  have hl : g < w1.heap.size := by omega
  exact ⟨(hb.cell (p := ⟨g, 0, none⟩) hl).trans h0, (hb.cell (p := ⟨g, 1, none⟩) hl).trans h1, (hb.cell (p := ⟨g, 2, none⟩) hl).trans h2, (hb.cell (p := ⟨g, 3, none⟩) hl).trans h3, h4.trans (hb.mono h5), Nat.le_trans h5 hb.size⟩
set_option maxRecDepth 100000 in
set_option maxHeartbeats 2000000 in
theorem sidesMake_calls {w W : World} {B : Nat} {a b c d : Option Addr} {A D : List RV} {KA KB : List Int} (wi wj : Int) (n1 n2 : Nat) (hn1 : n1 ≤ 4) (hn2 : n2 ≤ 4) (e1 : wrap64 ((IntKind.u64.wrap wi).tmod 5) = (n1 : Int)) (e2 : wrap64 ((IntKind.u64.wrap wj).tmod 5) = (n2 : Int)) (ca cb cc cd : Nat) (hA : NestArgs w a A) (hD : NestArgs w b D) (hB : w.heap.size = B) (hb : Below B w W) (hBW : B ≤ W.heap.size) (fA : A.length ≤ 60 ∧ ∀ x ∈ A, x.2.1.length ≤ 8) (fD : D.length ≤ 60 ∧ ∀ x ∈ D, x.2.1.length ≤ 8) :
    Calls Try.prog 14 #[sidesV wi wj a b c d A D KA KB ca cb cc cd] W (SidesRet n1 n2 (relOf n1 (A.map (·.2.1))) (relOf n2 (D.map (·.2.1))) W) := by
  obtain ⟨g, hg⟩ : ∃ g, W.heap.size = g := ⟨_, rfl⟩
  have HG := Lib.hid hg
  have hbw : ∀ w', Below g W w' → Below B w w' := fun w' h => hb.trans (h.mono (by omega))
  have MA : Hid (∀ w', Below g W w' → Calls Try.prog 23 #[.int .i64 (IntKind.i64.wrap ((IntKind.u64.wrap wi).tmod 5)), .slice a A.length ca] w' (BRet 60 w' n1 (relOf n1 (A.map (·.2.1))))) := Lib.hid (fun w' h => by rw [show IntKind.i64.wrap ((IntKind.u64.wrap wi).tmod 5) = (n1 : Int) by rw [IntKind.wrap_i64]; have h := e1; unfold wrap64 at h; exact h]; exact make_w ca n1 hA hB (hbw w' h) fA (by omega))
  have MD : Hid (∀ w', Below g W w' → Calls Try.prog 23 #[.int .i64 (IntKind.i64.wrap ((IntKind.u64.wrap wj).tmod 5)), .slice b D.length cb] w' (BRet 60 w' n2 (relOf n2 (D.map (·.2.1))))) := Lib.hid (fun w' h => by rw [show IntKind.i64.wrap ((IntKind.u64.wrap wj).tmod 5) = (n2 : Int) by rw [IntKind.wrap_i64]; have h := e2; unfold wrap64 at h; exact h]; exact make_w cb n2 hD hB (hbw w' h) fD (by omega))
  generalize relOf (n1 : Int) (A.map (·.2.1)) = xs at *
  generalize relOf (n2 : Int) (D.map (·.2.1)) = ys at *
  clear hA hD hB hb hBW fA fD hbw e1 e2
  have b0 : Below g W (W.alloc (.cells #[.int .i64 wi, .int .i64 wj, .slice a A.length ca, .slice b D.length cb, .slice c KA.length cc, .slice d KB.length cd] 25)) := (Below.refl _ _).alloc (by omega) _
  have c0 : (W.alloc (.cells #[.int .i64 wi, .int .i64 wj, .slice a A.length ca, .slice b D.length cb, .slice c KA.length cc, .slice d KB.length cd] 25)).cell? ⟨g, 0, none⟩ = some (.int .i64 wi) := by subst hg; go_simp
  have c1 : (W.alloc (.cells #[.int .i64 wi, .int .i64 wj, .slice a A.length ca, .slice b D.length cb, .slice c KA.length cc, .slice d KB.length cd] 25)).cell? ⟨g, 1, none⟩ = some (.int .i64 wj) := by subst hg; go_simp
  have c2 : (W.alloc (.cells #[.int .i64 wi, .int .i64 wj, .slice a A.length ca, .slice b D.length cb, .slice c KA.length cc, .slice d KB.length cd] 25)).cell? ⟨g, 2, none⟩ = some (.slice a A.length ca) := by subst hg; go_simp
  have c3 : (W.alloc (.cells #[.int .i64 wi, .int .i64 wj, .slice a A.length ca, .slice b D.length cb, .slice c KA.length cc, .slice d KB.length cd] 25)).cell? ⟨g, 3, none⟩ = some (.slice b D.length cb) := by subst hg; go_simp
  have s2 : g + 1 ≤ (W.alloc (.cells #[.int .i64 wi, .int .i64 wj, .slice a A.length ca, .slice b D.length cb, .slice c KA.length cc, .slice d KB.length cd] 25)).heap.size := by simp; omega
  unfold sidesV
  go_enter Try.func14, Try.ntmps14
  go_wp2_with fail
  clear hg
  generalize World.alloc W _ = W0 at *
  have s1 : Below (g + 1) W0 W0 := Below.refl _ _
  have hgg : g < g + 1 := Nat.lt_succ_self g
  have BT : Hid (∀ w', Below (g + 1) W0 w' → Below g W w') := Lib.hid (fun w' h => b0.trans (h.mono (Nat.le_succ g)))
  go_region_held3 (fun w' => w'.cell? ⟨g, 0, none⟩ = some (.int .i64 wi) ∧ w'.cell? ⟨g, 1, none⟩ = some (.int .i64 wj) ∧ w'.cell? ⟨g, 2, none⟩ = some (.slice a A.length ca) ∧ w'.cell? ⟨g, 3, none⟩ = some (.slice b D.length cb) ∧ Below (g + 1) W0 w' ∧ g + 1 ≤ w'.heap.size)
    (first | (exact ⟨c0, c1, c2, c3, s1.drew, s2⟩) | (exact held4 hgg ‹_ ∧ _ ∧ _ ∧ _ ∧ _ ∧ _› ‹Below _ _ _›))
    (first
      | (go_at_call 23; (with_reducible refine (MA.out _ (BT.out _ (And.left (And.right (And.right (And.right (And.right ‹_ ∧ _ ∧ _ ∧ _ ∧ Below (g + 1) W0 _ ∧ _›))))))).mono ?_); rintro e w4 ⟨p4, rfl, hs4, hb4⟩)
      | (go_at_call 23; (with_reducible refine (MD.out _ (BT.out _ (And.left (And.right (And.right (And.right (And.right ‹_ ∧ _ ∧ _ ∧ _ ∧ Below (g + 1) W0 _ ∧ _›))))))).mono ?_); rintro e w5 ⟨p5, rfl, hs5, hb5⟩))
  go_wp2_with fail
  go_ret2
  exact ⟨p4, p5, rfl, hs4.below hb5, hs5, by rw [HG.out]; exact BT.out _ ((s1.drew.trans (hb4.mono s2)).trans (hb5.mono (Nat.le_trans s2 hb4.size)))⟩
end Go.Proofs.Ytcecndjkfdaaaaa
