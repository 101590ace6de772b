/- A.Atom told once more: the block of its terms may be written. Written by mkszg.py. -/
import Derived.Test.YtaglbeokecbihaaDoorSyG
namespace Go.Proofs.YtaglbeokecbihaaDoor
open Go.RowKit
set_option linter.unusedVariables false
set_option linter.unusedSimpArgs false

attribute [local go_sem ↓] app_rule
def AtRet2 (w : World) (pred : ByteArray) (l : List Tm) (e : Ending) (w' : World) : Prop := ∃ a c, e = .returned (.agg #[.string pred, .slice a l.length c]) ∧ TmFr w.heap.size w'.heap.size w' a l ∧ Below w.heap.size w w' ∧ (∀ g, a = some ⟨g, 0, none⟩ → ∀ i, w'.frozen? ⟨g, i, none⟩ = false) ∧ l.length ≤ c
theorem fz_of {w : World} {g : Nat} {cs : Array Value} {T : TypeId} (h : w.heap[g]? = some (.cells cs T (0, 0))) (i : Nat) : w.frozen? ⟨g, i, none⟩ = false := by simp [World.frozen?, h]
theorem fz_set {w : World} {g P o : Nat} {cs : Array Value} {T : TypeId} {y : Value} (h : w.heap[g]? = some (.cells cs T (0, 0))) (hne : g ≠ P) : (w.setCell ⟨P, o, none⟩ y).heap[g]? = some (.cells cs T (0, 0)) := (Below.heap_setCell _ _ _ _ (fun e => hne e)).trans h
theorem own_cap {w : World} {base : Nat} {t : TypeId} {k m : Nat} {a : Option Addr} {n c : Nat} {xs : List Value} (h : w.ownsRow base t k (.slice a m c) n xs) : m ≤ c := by
  rcases h.2 with ⟨e, h0⟩ | ⟨r, cap, cur, e, _, _, hc, _⟩
  · simp only [Value.slice.injEq] at e; omega
  · simp only [Value.slice.injEq] at e; omega
theorem own_block {w : World} {base : Nat} {t : TypeId} {k m : Nat} {a : Option Addr} {n c : Nat} {xs : List Value} (h : w.ownsRow base t k (.slice a m c) n xs) {g : Nat} (hg : a = some ⟨g, 0, none⟩) : ∃ cs, w.heap[g]? = some (.cells cs t (0, 0)) ∧ base ≤ g := by
  rcases h.2 with ⟨e, _⟩ | ⟨r, cap, cur, e, hb, hh, _⟩
  · simp only [Value.slice.injEq] at e; rw [hg] at e; exact absurd e.1 (by simp)
  · simp only [Value.slice.injEq] at e
    rw [hg] at e
    obtain ⟨e1, _⟩ := e
    simp only [Option.some.injEq, Addr.mk.injEq] at e1
    obtain rfl : g = r := e1.1
    exact ⟨cur, hh, hb⟩
set_option maxRecDepth 100000 in
set_option maxHeartbeats 3000000 in
theorem atomOf2_calls (n : Int) (a : Option Addr) (T : List TV) (cap B : Nat) (w : World) (hB : B ≤ w.heap.size) (hT : TIn B w a T) (hl : T.length ≤ 10) : Calls Tryd.prog 14 #[.agg #[.int .i64 n, .slice a T.length cap]] w (AtRet2 w (predS (uN n % 6)) (atomL T)) := by
  obtain ⟨M, hM⟩ : ∃ M, w.heap.size = M := ⟨_, rfl⟩
  have HM := Lib.hid hM
  have cp := fun W => pred_calls n W
  obtain ⟨pr, hpr⟩ : ∃ pr, predS (uN n % 6) = pr := ⟨_, rfl⟩
  rw [hpr] at cp ⊢
  have B0 : Hid (Below M w ((w.alloc (.cells #[.int .i64 n, .slice a T.length cap] 35)).alloc (.cells #[.string ⟨#[]⟩, .slice none 0 0] 49))) := Lib.hid (by rw [← hM]; exact below2 w _ _)
  have Y0 : Hid (((w.alloc (.cells #[.int .i64 n, .slice a T.length cap] 35)).alloc (.cells #[.string ⟨#[]⟩, .slice none 0 0] 49)).heap[M]? = some (.cells #[.int .i64 n, .slice a T.length cap] 35 (0, 0))) := Lib.hid (by rw [← hM]; exact (((Below.refl _ _).alloc (Nat.le_refl _) _).block _ (by simp)).trans (box2 w _ _ 35))
  have Z0 : Hid (((w.alloc (.cells #[.int .i64 n, .slice a T.length cap] 35)).alloc (.cells #[.string ⟨#[]⟩, .slice none 0 0] 49)).heap[M + 1]? = some (.cells #[.string ⟨#[]⟩, .slice none 0 0] 49 (0, 0))) := Lib.hid (by rw [← hM]; exact rbox22 w _ _ _ 49)
  have S0 : Hid (((w.alloc (.cells #[.int .i64 n, .slice a T.length cap] 35)).alloc (.cells #[.string ⟨#[]⟩, .slice none 0 0] 49)).heap.size = M + 2) := Lib.hid (by simp [hM])
  have HT := Lib.hid hT
  have hBM : B ≤ M := by omega
  clear hT hM hpr hB
  obtain ⟨N, hN⟩ : ∃ N, T.length = N := ⟨_, rfl⟩
  have HN := Lib.hid hN
  rw [hN] at B0 Y0 Z0 S0 hl ⊢
  clear hN
  have MX := HM.out
  go_enter Tryd.func14, Tryd.ntmps14
  go_wp2_with fail
  refine (cp _).mono ?_
  generalize World.alloc (World.alloc w _) _ = W0 at *
  rintro e w1 ⟨rfl, hb1⟩
  have b1 : Below M w w1 := B0.out.trans (hb1.mono (by rw [S0.out]; omega))
  have y1 := (hb1.block M (by rw [S0.out]; omega)).trans Y0.out
  have z1 := (hb1.block (M + 1) (by rw [S0.out]; omega)).trans Z0.out
  have s1 : M + 2 ≤ w1.heap.size := by have := hb1.size; rw [S0.out] at this; exact this
  obtain ⟨P, hP⟩ : ∃ P, w1.heap.size = P := ⟨_, rfl⟩
  have HP := Lib.hid hP
  have A1 : Hid (AW M P w pr (.slice none 0 0) [] (w1.alloc (.cells #[.string pr, .slice none 0 0] 49))) := Lib.hid ⟨b1.alloc (by omega) _, (((Below.refl _ _).alloc (Nat.le_refl _) _).block _ (by omega)).trans z1, by rw [← hP]; exact box2 w1 _ _ 49, World.ownsRow_nil _ _ _ _, by simp [hP], by omega⟩
  have y2 := (((Below.refl w1.heap.size w1).alloc (Nat.le_refl _) (.cells #[.string pr, .slice none 0 0] 49)).block M (by omega)).trans y1
  obtain ⟨p0, p1⟩ := cells2 y2
  clear hb1 b1 y1 z1 hP y2 cp
  have PX := HP.out
  go_wp2_with fail
  clear p0 p1
  go_loopw [13] (fun i wr => ∃ (k : Nat) (v : Value), k ≤ N ∧ i = .int .i64 k ∧ Hid (AW M P w pr v ((T.map tmOf).take k) wr)) (fun i _ => N - (intOf i).toNat)
  case atStart => exact ⟨0, _, Nat.zero_le _, rfl, A1⟩
  case round =>
    obtain ⟨k, v, hk, rfl, HA⟩ := hrel
    by_cases hlt : k < N
    · have hlT : k < T.length := by rw [HN.out]; exact hlt
      obtain ⟨b, off, hadr, f0, f1, f2⟩ := HT.out.at (HA.out.bel.mono hBM) hlT
      have TS : Hid ((T.map tmOf).take (k + 1) = (T.map tmOf).take k ++ [tmOf (atT T k)]) := Lib.hid (by
        rw [List.take_succ_eq_append_getElem (by simpa using hlT)]
        simp [atT, hlT])
      have CT : Hid (∀ W, Calls Tryd.prog 11 #[.agg #[.int .i64 (atT T k).1, .int .i64 (atT T k).2.1, .int .i64 (atT T k).2.2]] W (TmRet W (tmOf (atT T k)))) := Lib.hid (fun W => term_calls _ _ _ W)
      have LL : Hid (((T.map tmOf).take k).length ≤ 1000) := Lib.hid (by rw [List.length_take]; omega)
      generalize tmOf (atT T k) = t at *
      generalize atT T k = y at *
      obtain ⟨x1, x2, x3⟩ := y
      simp only at f0 f1 f2 CT
      generalize (T.map tmOf).take k = acc at *
      subst hadr
      obtain ⟨m, hm⟩ : ∃ m, wr.heap.size = m := ⟨_, rfl⟩
      have A3 := Lib.hid (HA.out.below ((Below.refl _ _).alloc (Nat.le_refl _) (.cells #[.int .i64 x1, .int .i64 x2, .int .i64 x3] 32)))
      have Y3 := Lib.hid (box3 wr (.int .i64 x1) (.int .i64 x2) (.int .i64 x3) 32)
      have hlo := HA.out.lo
      have hsz := HA.out.sz
      rw [hm] at Y3 hsz
      obtain ⟨q0, q1, q2, _⟩ := cells3 Y3.out
      obtain ⟨r0, r1⟩ := cells2 A3.out.box
      go_wp2_with fail
      generalize World.alloc wr _ = W3 at *
      go_region_with (first
        | (go_at_call 11; (with_reducible refine (CT.out _).mono ?_); rintro e w5 ⟨rfl, hb5⟩; have hb6 : Below W3.heap.size W3 w5 := Below.trans (Below.drew (Below.refl _ _)) hb5; have A5 := A3.out.below hb6; obtain ⟨v', w7, hrun, hown, hgrow⟩ := app_tm A5.own LL.out A5.sz t; obtain ⟨va, vn, vc, rfl⟩ := own_shape hown; have A7 := AW.app A5 hown hgrow; obtain ⟨u0, u1⟩ := cells2 A5.box; have u5 := (((Below.refl w5.heap.size w5).alloc (Nat.le_refl _) (.cells #[.int .i64 t.kind, .string t.text, .int .i64 t.n] 44)).block P (by have := A5.sz; omega)).trans A5.box; obtain ⟨u2, u3⟩ := cells2 u5; obtain ⟨u6, u7⟩ := cells2 A7.2.1; have u8 : ∀ i, w7.frozen? ⟨P, i, none⟩ = false := fun i => (by simp [World.frozen?, A7.2.1])))
      all_goals
        have A8 : Hid (AW M P w pr (.slice va vn vc) ((T.map tmOf).take (k + 1)) (w7.setCell ⟨P, 1, none⟩ (.slice va vn vc))) := Lib.hid (by rw [TS.out]; exact AW.store A7 hlo)
        clear A7 A5 u0 u1 u2 u3 u5 u6 u7 u8 hown hgrow hrun hb5 hb6 q0 q1 q2 r0 r1
        go_wp2_with fail
        go_roundw
        case rel => exact ⟨k + 1, _, by omega, by go_num, A8⟩
        case measure => simp [intOf]; omega
    · obtain rfl : k = N := by omega
      have TL : Hid ((T.map tmOf).take k = T.map tmOf) := Lib.hid (List.take_of_length_le (by rw [List.length_map, HN.out]; omega))
      rw [TL.out] at HA
      have hok : ∀ t ∈ T.map tmOf, TmOK t := fun t ht => by
        obtain ⟨x, hx, rfl⟩ := List.mem_map.1 ht
        have := HT.out.ok x hx
        exact tmM_ok _ _ _ this.1 this.2
      obtain ⟨av, cv, hv, hfr⟩ := fr_of_owns HA.out.own hok
      have hlen : (T.map tmOf).length = k := by rw [List.length_map, HN.out]
      rw [hlen] at hv
      subst hv
      have hlo := HA.out.lo
      have hsz := HA.out.sz
      have hres := HA.out.res
      have hbox := HA.out.box
      have hbel := HA.out.bel
      obtain ⟨r0, r1⟩ := cells2 hbox
      obtain ⟨z0, z1⟩ := cells2 hres
      have frP : ∀ i, wr.frozen? ⟨P, i, none⟩ = false := fun i => by simp [World.frozen?, hbox]
      have frM : ∀ i, wr.frozen? ⟨M + 1, i, none⟩ = false := fun i => by simp [World.frozen?, hres]
      by_cases h0 : k = 0
      · have hT0 : T = [] := List.length_eq_zero_iff.1 (by rw [HN.out]; exact h0)
        have FX := Lib.hid (at_none (pr := pr) (v := .slice av k cv) hbel hres hbox hsz hlo)
        have HAT : Hid (atomL T = [⟨0, ⟨#[88]⟩, 0⟩]) := Lib.hid (by unfold atomL; rw [if_pos hT0])
        have hP2 := (((Below.refl wr.heap.size wr).alloc (Nat.le_refl _) (.cells #[.int .i64 0, .string ⟨#[88]⟩, .int .i64 0] 44)).block P (by omega)).trans hbox
        have hM2 := (((Below.refl wr.heap.size wr).alloc (Nat.le_refl _) (.cells #[.int .i64 0, .string ⟨#[88]⟩, .int .i64 0] 44)).block (M + 1) (by omega)).trans hres
        obtain ⟨P0, P1⟩ := cells2 hP2
        obtain ⟨M0, M1⟩ := cells2 hM2
        have fP2 : ∀ i, (wr.alloc (.cells #[.int .i64 0, .string ⟨#[88]⟩, .int .i64 0] 44)).frozen? ⟨P, i, none⟩ = false := fun i => by simp only [World.frozen?, hP2]; simp
        have fM2 : ∀ i, (wr.alloc (.cells #[.int .i64 0, .string ⟨#[88]⟩, .int .i64 0] 44)).frozen? ⟨M + 1, i, none⟩ = false := fun i => by simp only [World.frozen?, hM2]; simp
        clear hP2 hM2
        have neP : ¬ P = wr.heap.size := by omega
        have neP' : ¬ wr.heap.size = P := by omega
        have neM : ¬ M + 1 = wr.heap.size := by omega
        have neM' : ¬ wr.heap.size = M + 1 := by omega
        have neQ : ¬ M + 1 = P := by omega
        have neQ' : ¬ P = M + 1 := by omega
        have FZ : Hid (∀ i, ((((wr.alloc (.cells #[.int .i64 0, .string ⟨#[88]⟩, .int .i64 0] 44)).setCell ⟨P, 1, none⟩ (.slice (some ⟨wr.heap.size, 0, none⟩) 1 1)).setCell ⟨M + 1, 0, none⟩ (.string pr)).setCell ⟨M + 1, 1, none⟩ (.slice (some ⟨wr.heap.size, 0, none⟩) 1 1)).frozen? ⟨wr.heap.size, i, none⟩ = false) := Lib.hid (fun i => fz_of (fz_set (fz_set (fz_set (heap_alloc_new wr _) (show wr.heap.size ≠ P by omega)) (show wr.heap.size ≠ M + 1 by omega)) (show wr.heap.size ≠ M + 1 by omega)) i)
        clear hres hbox hbel hfr hok hT0
        subst h0
        go_wp2_with fail
        obtain ⟨⟨d0, d1⟩, hF, hB⟩ := FX.out
        refine bodyPost_ret (v := .agg #[.string pr, .slice (some ⟨wr.heap.size, 0, none⟩) 1 1]) ?_ rfl ⟨_, 1, by rw [HAT.out]; rfl, by rw [HM.out, HAT.out]; exact hF, by rw [HM.out]; exact hB, (fun g hg i => by cases hg; exact FZ.out i), by rw [HAT.out]; exact Nat.le_refl _⟩
        simp [results, Tryd.results14, go_sem, d0, d1]
      · have tk : ((k : Int) == 0) = false := beq_eq_false_iff_ne.2 (by omega)
        have tk2 : (k == 0) = false := beq_eq_false_iff_ne.2 h0
        have HAT : Hid (atomL T = T.map tmOf) := Lib.hid (by unfold atomL; rw [if_neg (fun h => h0 (by rw [← HN.out, h]; rfl))])
        have E1 := Lib.hid (heap_set2 (y0 := .string pr) (y1 := .slice av k cv) hres)
        have oth : ∀ q, q ≠ M + 1 → ((wr.setCell ⟨M + 1, 0, none⟩ (.string pr)).setCell ⟨M + 1, 1, none⟩ (.slice av k cv)).heap[q]? = wr.heap[q]? := fun q hq => by rw [Below.heap_setCell _ _ _ _ (fun e => hq e), Below.heap_setCell _ _ _ _ (fun e => hq e)]
        have sz2 : ((wr.setCell ⟨M + 1, 0, none⟩ (.string pr)).setCell ⟨M + 1, 1, none⟩ (.slice av k cv)).heap.size = wr.heap.size := by simp [World.setCell]
        have F1 := Lib.hid ((hfr.on (w' := (wr.setCell ⟨M + 1, 0, none⟩ (.string pr)).setCell ⟨M + 1, 1, none⟩ (.slice av k cv)) (fun q h1 _ => oth q (by omega))).mono (L' := M) (N' := ((wr.setCell ⟨M + 1, 0, none⟩ (.string pr)).setCell ⟨M + 1, 1, none⟩ (.slice av k cv)).heap.size) (by omega) (by rw [sz2]; omega))
        have R1 : Hid (Below M w ((wr.setCell ⟨M + 1, 0, none⟩ (.string pr)).setCell ⟨M + 1, 1, none⟩ (.slice av k cv))) := Lib.hid ((hbel.setCell (p := ⟨M + 1, 0, none⟩) (by show M ≤ M + 1; omega) _).setCell (p := ⟨M + 1, 1, none⟩) (by show M ≤ M + 1; omega) _)
        have HL := Lib.hid hlen
        have FZ : Hid (∀ g, av = some ⟨g, 0, none⟩ → ∀ i, ((wr.setCell ⟨M + 1, 0, none⟩ (.string pr)).setCell ⟨M + 1, 1, none⟩ (.slice av k cv)).frozen? ⟨g, i, none⟩ = false) := Lib.hid (fun g hg i => by
          obtain ⟨cs, hcs, hge⟩ := own_block HA.out.own hg
          exact fz_of (fz_set (fz_set hcs (show g ≠ M + 1 by omega)) (show g ≠ M + 1 by omega)) i)
        have CAP : Hid ((atomL T).length ≤ cv) := Lib.hid (by rw [HAT.out, hlen]; exact own_cap HA.out.own)
        clear hres hbox hbel hfr oth sz2 hok hlen
        go_wp2_with fail
        obtain ⟨d0, d1⟩ := cells2 E1.out
        refine bodyPost_ret (v := .agg #[.string pr, .slice av k cv]) ?_ rfl ⟨av, cv, by rw [HAT.out, HL.out], by rw [HM.out, HAT.out]; exact F1.out, by rw [HM.out]; exact R1.out, FZ.out, CAP.out⟩
        simp [results, Tryd.results14, go_sem, d0, d1]
end Go.Proofs.YtaglbeokecbihaaDoor
