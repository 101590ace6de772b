import Derived.Test.YtepkmhcchmladaaSg10
import Derived.Test.YtepkmhcchmladaaSt9
/- Contract of the statements' own Is. -/
namespace Go.Proofs.Ytepkmhcchmladaa
open Go.RowKit
set_option linter.unusedVariables false
set_option linter.unusedSimpArgs false

theorem map_atV {L : List RV} {i : Nat} (h : i < L.length) : (L.map (·.2.1))[i]?.getD [] = (atV L i).2.1 := by simp [h, atV]
set_option maxRecDepth 100000 in
set_option maxHeartbeats 2000000 in
theorem is_calls {w : World} {p : Option Addr} {wd : Nat} {xs : List (List Int)} (h : Seg w p wd xs) (a : Option Addr) (cap : Nat) (A : List RV) (hR : RRow w a A) (hwd : wd ≤ 1000) (hx : xs.length ≤ 1000) (he : xs = A.map (·.2.1)) :
    Calls Try.prog 38 #[.pointer p, .slice a A.length cap] w (TrueRet5 w) := by
  have HS := Lib.hid h
  have HR := Lib.hid hR
  have hl : xs.length = A.length := by rw [he]; simp
  have HE : Hid (∀ i, i < A.length → rowAt xs i = (atV A i).2.1) := Lib.hid (fun i hi => by rw [he]; exact map_atV hi)
  have HW0 : Hid (∀ i, i < xs.length → (rowAt xs i).length = wd) := Lib.hid (fun i hi => h.2.1 _ (rowAt_mem hi))
  obtain ⟨B, hB⟩ : ∃ B, w.heap.size = B := ⟨_, rfl⟩
  have HB := Lib.hid hB
  have cl := segLen_calls h
  rw [hl] at cl
  clear h hR hB he
  go_enter Try.func38, Try.ntmps38
  go_wp2_with fail
  refine cl.mono ?_
  rintro e w' ⟨rfl, rfl⟩
  clear cl
  go_wp2_with fail
  go_loopw [14] (fun s wr => ∃ k : Nat, k ≤ A.length ∧ s = .int .i64 k ∧ Hid (Below B w wr)) (fun s _ => A.length - (intOf s).toNat)
  case atStart => exact ⟨0, Nat.zero_le _, rfl, Lib.hid (Below.refl _ _)⟩
  case round =>
    obtain ⟨k, hk, rfl, HW⟩ := hrel
    have hBr : B ≤ wr.heap.size := by have := HW.out.size; rw [HB.out] at this; exact this
    by_cases hlt : k < A.length
    · obtain ⟨b, off, rfl, hb, hcell, hrow, _⟩ := (HR.out.belowB HB.out HW.out).at hlt
      have cr := segRow_calls (HS.out.belowB HB.out HW.out) k (by omega) hwd (by omega)
      have hek := HE.out k hlt
      have hwk := HW0.out k (by omega)
      have q1 : (k : Int) < (A.length : Int) := by omega
      have q2 : (0 : Int) ≤ (k : Int) := by omega
      obtain ⟨r, hr⟩ : ∃ r, rowAt xs k = r := ⟨_, rfl⟩
      rw [hr] at cr hek hwk
      rw [← hek] at hcell hrow
      have HRO := Lib.hid hrow
      have HWK := Lib.hid hwk
      clear hr hek hrow hwk
      go_wp2_with fail
      refine cr.mono ?_
      rintro e w2 ⟨na, nc, rfl, hr2, _, hb2⟩
      have cc := lawCompare_calls na (atV A k).1 nc (atV A k).2.2 r r w2 hr2 (HRO.out.below hb2) (by rw [HWK.out]; omega) (by rw [HWK.out]; omega)
      rw [cmpR_self] at cc
      have HW2 : Hid (Below B w w2) := Lib.hid (HW.out.trans (hb2.mono hBr))
      clear cr hr2 hb2
      go_wp2_with fail
      refine cc.mono ?_
      rintro e w3 ⟨rfl, q3, rfl⟩
      clear cc
      go_wp2_with fail
      go_roundw
      case rel => exact ⟨k + 1, by omega, by go_num, Lib.hid (below_drewN HW2.out q3)⟩
      case measure => simp [intOf]; omega
    · obtain rfl : k = A.length := by omega
      go_wp2_with fail
      go_ret
      exact ⟨rfl, by rw [HB.out]; exact HW.out⟩
end Go.Proofs.Ytepkmhcchmladaa

/- The example of the laws about stores. -/
namespace Go.Proofs.Ytepkmhcchmladaa
open Go.RowKit Go.Shelf Go.Maps
set_option linter.unusedVariables false
set_option linter.unusedSimpArgs false

theorem row1 {w : World} {b : Nat} {x : Int} (h0 : w.cell? ⟨b, 0, none⟩ = some (.int .i64 x)) (hb : b < w.heap.size) : Row w (some ⟨b, 0, none⟩) [x] := by
  refine .inr ⟨b, 0, rfl, hb, fun i hi => ?_⟩
  match i, hi with
  | 0, _ => exact h0
/-- A literal of two rows of one number. -/
theorem lit11 {w : World} {B : Nat} (hB : w.heap.size = B) (x y : Int) :
    RRow (((w.alloc (.cells #[.int .i64 x] 2)).alloc (.cells #[.int .i64 y] 2)).alloc (.cells #[.slice (some ⟨B, 0, none⟩) 1 1, .slice (some ⟨B + 1, 0, none⟩) 1 1] 33)) (some ⟨B + 1 + 1, 0, none⟩) [(some ⟨B, 0, none⟩, [x], 1), (some ⟨B + 1, 0, none⟩, [y], 1)] ∧
    Below B w (((w.alloc (.cells #[.int .i64 x] 2)).alloc (.cells #[.int .i64 y] 2)).alloc (.cells #[.slice (some ⟨B, 0, none⟩) 1 1, .slice (some ⟨B + 1, 0, none⟩) 1 1] 33)) := by
  refine ⟨⟨.inr ⟨B + 1 + 1, 0, rfl, by simp; omega, fun i hi => ?_⟩, fun x hx => ?_⟩, (((Below.refl _ _).alloc (by omega) _).alloc (by simp; omega) _).alloc (by simp; omega) _⟩
  · match i, hi with
    | 0, _ => subst hB; go_simp; rfl
    | 1, _ => subst hB; go_simp; rfl
  · simp only [List.mem_cons, List.not_mem_nil, or_false] at hx
    rcases hx with rfl | rfl
    · exact ⟨row1 (by subst hB; go_simp) (by simp; omega), by simp⟩
    · exact ⟨row1 (by subst hB; go_simp) (by simp; omega), by simp⟩
theorem lit1 {w : World} {B : Nat} (hB : w.heap.size = B) (x : Int) :
    RRow ((w.alloc (.cells #[.int .i64 x] 2)).alloc (.cells #[.slice (some ⟨B, 0, none⟩) 1 1] 33)) (some ⟨B + 1, 0, none⟩) [(some ⟨B, 0, none⟩, [x], 1)] ∧
    Below B w ((w.alloc (.cells #[.int .i64 x] 2)).alloc (.cells #[.slice (some ⟨B, 0, none⟩) 1 1] 33)) := by
  refine ⟨⟨.inr ⟨B + 1, 0, rfl, by simp; omega, fun i hi => ?_⟩, fun x hx => ?_⟩, ((Below.refl _ _).alloc (by omega) _).alloc (by simp; omega) _⟩
  · match i, hi with
    | 0, _ => subst hB; go_simp; rfl
  · simp only [List.mem_cons, List.not_mem_nil, or_false] at hx
    obtain rfl := hx
    exact ⟨row1 (by subst hB; go_simp) (by simp; omega), by simp⟩
theorem StS.lt {N G : Nat → Prop} {w : World} {g wd : Nat} {most : Int} {runs : List (List (List Int))} {dl : List (List Int)} (h : StS N G w g wd most runs dl) : ∀ b, G b → b < w.heap.size := by
  obtain ⟨_, _, _, _, _, hk, _⟩ := h; exact hk.lt
theorem StS.sub {N G : Nat → Prop} {w : World} {g wd : Nat} {most : Int} {runs : List (List (List Int))} {dl : List (List Int)} (h : StS N G w g wd most runs dl) : ∀ b, N b → G b := by
  obtain ⟨_, _, _, _, _, hk, _⟩ := h; exact hk.sub
theorem StS.gN {N G : Nat → Prop} {w : World} {g wd : Nat} {most : Int} {runs : List (List (List Int))} {dl : List (List Int)} (h : StS N G w g wd most runs dl) : N g := by
  obtain ⟨_, _, _, _, _, hk, _⟩ := h; exact hk.gN
theorem rng12 : ∀ x ∈ ([[1], [2]] : List (List Int)), InRange x := by
  intro x hx; simp at hx; rcases hx with rfl | rfl <;> intro y hy <;> simp at hy <;> omega
theorem rng23 : ∀ x ∈ ([[2], [3]] : List (List Int)), InRange x := by
  intro x hx; simp at hx; rcases hx with rfl | rfl <;> intro y hy <;> simp at hy <;> omega
theorem nd12 : ([[1], [2]] : List (List Int)).Nodup := by decide
theorem nd23 : ([[2], [3]] : List (List Int)).Nodup := by decide
theorem h11_f : ([[[1], [2]]] : List (List (List Int))).flatten.length + 2 ≤ 1000 := by decide
theorem h11_a : relOf ((1 : Nat) : Int) [[1], [2]] = [[1], [2]] := by decide
theorem h11_b : relOf ((1 : Nat) : Int) [[2], [3]] = [[2], [3]] := by decide
theorem h11_n1 : newR 1 [] 1 [[1], [2]] = [[1], [2]] := by decide
theorem h11_n2 : newR 1 [[[1], [2]]] 1 [[2], [3]] = [[3]] := by decide
theorem h11_r1 : stepRuns 1 0 [] [[1], [2]] = [[[1], [2]]] := by decide
theorem h11_r2 : stepRuns 1 0 [[[1], [2]]] [[3]] = [[[1], [2]], [[3]]] := by decide
set_option maxRecDepth 100000 in
set_option maxHeartbeats 4000000 in
theorem head11_calls (w : World) : Calls Try.prog 15 #[] w (TrueRet5 w) := by
  obtain ⟨B, hB⟩ : ∃ B, w.heap.size = B := ⟨_, rfl⟩
  have HB := Lib.hid hB
  go_enter Try.func15, Try.ntmps15
  go_wp2_with fail
  refine (stNew_calls 1 0 w (by omega)).mono ?_
  rintro e w1 ⟨g, rfl, hg1, hg2, hS, hb1⟩
  have S1 := Lib.hid (hS (fun _ => False) (fun _ h => h.elim))
  have B1 := Lib.hid hb1
  have HG1 := Lib.hid hg1
  clear hS hb1 hg1 hg2 hB
  obtain ⟨D, hD⟩ : ∃ D, w1.heap.size = D := ⟨_, rfl⟩
  have HD := Lib.hid hD
  have HL := Lib.hid (lit11 hD 1 2)
  go_wp2_with fail
  clear hD
  generalize World.alloc (World.alloc (World.alloc _ _) _) _ = W at *
  refine (make_later 1 _ 2 _ W HL.out.1 (by omega) (by simp) (by simp)).mono ?_
  rintro e w2 ⟨p1, rfl, hs1, hb2⟩
  have hs1' : ∀ W', Later W.heap.size w2 W' → Seg W' p1 1 [[1], [2]] := by
    have := hs1
    simp only [List.map_cons, List.map_nil] at this
    rw [h11_a] at this; exact this
  have BW : Hid (Below w1.heap.size w1 W) := Lib.hid (by rw [HD.out]; exact HL.out.2)
  have S2 := Lib.hid ((S1.out.below BW.out).below hb2)
  have SG := Lib.hid (SegN.new (s := (p1, [[1], [2]])) hs1' (S1.out.below BW.out).lt)
  have B2 := Lib.hid (B1.out.trans ((BW.out.trans (hb2.mono BW.out.size)).mono B1.out.size))
  clear hs1 hs1' hb2 HL S1 B1 BW HD
  go_wp2_with fail
  refine (stStep_calls S2.out (s := (p1, [[1], [2]])) SG.out (by omega) (by simp) (by simp) rng12 nd12).mono ?_
  rintro e w3 ⟨rfl, N3, hn1, hn2, hS3, hk3⟩
  dsimp only at hS3
  rw [h11_n1, h11_r1] at hS3
  rw [h11_n1]
  have S3 := Lib.hid hS3
  have B3 : Hid (Below w.heap.size w w3) := Lib.hid (B2.out.trans (hk3.below B2.out.size (fun b hb => by rw [hb]; exact HG1.out)))
  have HN3 : Hid (∀ b, N3 b → w.heap.size ≤ b) := Lib.hid (fun b hb => by
    rcases hn2 b hb with h | h
    · rw [h]; exact HG1.out
    · exact Nat.le_trans B2.out.size h)
  clear hS3 hk3 hn1 hn2 S2 SG B2 HG1
  obtain ⟨D, hD⟩ : ∃ D, w3.heap.size = D := ⟨_, rfl⟩
  have HD := Lib.hid hD
  have HL := Lib.hid (lit11 hD 2 3)
  go_wp2_with fail
  clear hD
  generalize World.alloc (World.alloc (World.alloc _ _) _) _ = V at *
  refine (make_later 1 _ 2 _ V HL.out.1 (by omega) (by simp) (by simp)).mono ?_
  rintro e w4 ⟨p2, rfl, hs1, hb2⟩
  have hs1' : ∀ W', Later V.heap.size w4 W' → Seg W' p2 1 [[2], [3]] := by
    have := hs1
    simp only [List.map_cons, List.map_nil] at this
    rw [h11_b] at this; exact this
  have BV : Hid (Below w3.heap.size w3 V) := Lib.hid (by rw [HD.out]; exact HL.out.2)
  have S4 := Lib.hid ((S3.out.below BV.out).below hb2)
  have SG := Lib.hid (SegN.new (s := (p2, [[2], [3]])) hs1' (S3.out.below BV.out).lt)
  have B4 := Lib.hid (B3.out.trans ((BV.out.trans (hb2.mono BV.out.size)).mono B3.out.size))
  clear hs1 hs1' hb2 HL S3 B3 BV HD
  go_wp2_with fail
  refine (stStep_calls S4.out (s := (p2, [[2], [3]])) SG.out (by omega) (by simp) h11_f rng23 nd23).mono ?_
  rintro e w5 ⟨rfl, N5, hn1, hn2, hS5, hk5⟩
  dsimp only at hS5
  rw [h11_n2, h11_r2] at hS5
  rw [h11_n2]
  have S5 := Lib.hid hS5
  have B5 : Hid (Below w.heap.size w w5) := Lib.hid (B4.out.trans (hk5.below B4.out.size HN3.out))
  clear hS5 hk5 hn1 hn2 S4 SG B4 HN3
  have cd := stDelta_calls S5.out
  go_wp2_with fail
  refine cd.mono ?_
  rintro e w' ⟨q, rfl, hq, rfl⟩
  obtain ⟨D, hD⟩ : ∃ D, w5.heap.size = D := ⟨_, rfl⟩
  have HD := Lib.hid hD
  have HL := Lib.hid (lit1 hD 3)
  have HQ := Lib.hid hq
  clear hq cd
  go_wp2_with fail
  clear hD
  generalize World.alloc (World.alloc _ _) _ = U at *
  have BU : Hid (Below w5.heap.size w5 U) := Lib.hid (by rw [HD.out]; exact HL.out.2)
  refine (is_calls (HQ.out.below BU.out).seg _ 1 _ HL.out.1 (by omega) (by simp) (by simp)).mono ?_
  rintro e w6 ⟨rfl, hb6⟩
  have S6 := Lib.hid ((S5.out.below BU.out).below hb6)
  have B6 := Lib.hid (B5.out.trans ((BU.out.trans (hb6.mono BU.out.size)).mono B5.out.size))
  clear hb6 HL S5 B5 BU HD HQ
  have cl := stLen_calls S6.out (by simp) (by simp)
  have cr := stRuns_calls S6.out
  have e1 : ([[[1], [2]], [[3]]] : List (List (List Int))).flatten.length = 3 := by decide
  have e2 : ([[[1], [2]], [[3]]] : List (List (List Int))).length = 2 := by decide
  rw [e1] at cl
  rw [e2] at cr
  clear e1 e2
  go_wp2_with fail
  refine cl.mono ?_
  rintro e w' ⟨rfl, rfl⟩
  go_wp2_with fail
  refine cr.mono ?_
  rintro e w' ⟨rfl, rfl⟩
  have F := Lib.hid (show TrueRet5 w (.returned (.bool true)) w6 from ⟨rfl, B6.out⟩)
  clear cl cr
  go_wp2_with fail
  go_ret
  exact F.out
end Go.Proofs.Ytepkmhcchmladaa
