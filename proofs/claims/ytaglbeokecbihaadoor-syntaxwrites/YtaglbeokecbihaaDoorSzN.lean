/- Rule.Vars. Written by mkszn.py. -/
import Derived.Test.YtaglbeokecbihaaDoorSzM
import Derived.Test.YtaglbeokecbihaaDoorSzD
namespace Go.Proofs.YtaglbeokecbihaaDoor
open Go.RowKit Go.Maps
set_option linter.unusedVariables false
set_option linter.unusedSimpArgs false

theorem varsL_size {l : List Tm} (h : ∀ t ∈ l, TmOK t) : ∀ s ∈ varsL l, s.size ≤ 100 := by
  intro s hs
  unfold varsL at hs
  obtain ⟨t, ht, rfl⟩ := List.mem_map.1 hs
  have : t.text.size ≤ 20 := (h t (List.mem_filter.1 ht).1).s
  omega
theorem xVars_size : ∀ {x : X} {N : Nat} {w : World} {v : XV}, XIn N w x v → ∀ s ∈ xVars x, s.size ≤ 100
  | .leaf t, _, _, _, h => varsL_size (fun s hs => by rw [List.mem_singleton.1 hs]; exact h.2)
  | .op _ a b, _, _, _, ⟨_, _, _, _, _, _, _, _, _, ha, hb⟩ => fun s hs => by
    rcases List.mem_append.1 hs with h1 | h1
    · exact xVars_size ha s h1
    · exact xVars_size hb s h1
theorem pVars_ok {N : Nat} {w : World} {p : Pt} {cs : Array Value} (h : PtV N w p cs) (hn : ∀ nm x, p = .letx nm x → x.nodes ≤ 1000) : (pVars p).length ≤ 1001 ∧ ∀ s ∈ pVars p, s.size ≤ 100 := by
  cases p with
  | pos pred l => obtain ⟨a, c, h1, h2, h3, h4⟩ := h; exact ⟨by have := varsL_len l; simp only [pVars]; omega, varsL_size h2.1⟩
  | neg pred l => obtain ⟨a, c, h1, h2, h3, h4⟩ := h; exact ⟨by have := varsL_len l; simp only [pVars]; omega, varsL_size h2.1⟩
  | cmp op ta tb =>
    obtain ⟨h1, h2, h3, h4⟩ := h
    refine ⟨by have := varsL_len [ta, tb]; simp only [pVars]; simp only [List.length_cons, List.length_nil] at this; omega, varsL_size (fun t ht => ?_)⟩
    rcases List.mem_cons.1 ht with rfl | ht
    · exact h3
    · rw [List.mem_singleton.1 ht]; exact h4
  | letx nm x =>
    obtain ⟨k1, k2, k3, k4, k5, k6, k7, h1, h2, h3, h4⟩ := h
    refine ⟨by have := xVars_len x; have := hn _ _ rfl; simp only [pVars, List.length_cons]; omega, fun s hs => ?_⟩
    rcases List.mem_cons.1 hs with rfl | hs
    · exact h3
    · exact xVars_size h2 s hs
theorem run_mk107 (w : World) : (Instr.makeMap 107 none).run Tryd.prog w = .ok (.map (some w.heap.size)) (w.alloc (.map #[] 0)) := rfl
/-- The variables so far: a row of the call's own and the set of them. -/
structure RVI (M m : Nat) (w : World) (v : Value) (ts : List ByteArray) (W : World) : Prop where
  bel : Below (M + 1) w W
  own : SO (M + 1) W v ts
  map : ∃ D, W.ownsMap Tryd.prog 9 unitElem m ts.length D ∧ MapHas D ts
  sz : m < W.heap.size
  lo : M + 1 ≤ m
theorem RVI.below {M m : Nat} {w : World} {v : Value} {ts : List ByteArray} {W W' : World} (h : RVI M m w v ts W) (hb : Below W.heap.size W W') : RVI M m w v ts W' := by
  have h1 := h.sz
  have h2 := h.lo
  obtain ⟨D, hD, hT⟩ := h.map
  exact ⟨h.bel.trans (hb.mono (by omega)), h.own.below hb, ⟨D, map_kept hD (hb.block _ h1), hT⟩, Nat.lt_of_lt_of_le h1 hb.size, h2⟩
/-- addNew over new names. -/
theorem RVI.addNew {M m F : Nat} {w : World} {v : Value} {ts : List ByteArray} {W : World} (h : RVI M m w v ts W) {z : Value} {ns : List ByteArray} (hz : SO F W z ns) (hvF : ∀ b, v.ownBlock = some b → b < F) (hmF : m < F) (hF : F ≤ W.heap.size) (hl : ts.length + ns.length ≤ 10000) (hsz : ∀ s ∈ ns, s.size ≤ 1000) :
    Calls Tryd.prog 48 #[v, .map (some m), z] W fun e w' => ∃ v', e = .returned v' ∧ RVI M m w v' (news ts ns) w' := by
  refine (addNew_calls (M + 1) F m v ts W ⟨Below.refl _ _, h.own, fun b hb => .inl (hvF b hb), h.map, fun _ _ _ => rfl, Nat.le_refl _, h.lo, hmF, hF⟩ z ns hz hl hsz).mono fun e w' h9 => ?_
  obtain ⟨v', rfl, h10⟩ := h9
  have h11 := h10.sz
  exact ⟨v', rfl, h.bel.trans h10.bel, h10.own, h10.map, by have := h.sz; omega, h.lo⟩
def RvRet (M m : Nat) (w : World) (ts : List ByteArray) (e : Ending) (w' : World) : Prop := ∃ v', e = .returned v' ∧ RVI M m w v' ts w'
set_option maxRecDepth 100000 in
set_option maxHeartbeats 4000000 in
/-- Rule.Vars. -/
theorem ruleVars_calls (pred : ByteArray) (a : Option Addr) (l : List Tm) (c : Nat) (ag at9 : Int) (b : Option Addr) (ps : List Pt) (d N : Nat) (w : World) (hN : N ≤ w.heap.size) (hr : TmRow N w a l) (hp : PtRow N w b ps) (hl : l.length ≤ 100) (hpl : ps.length ≤ 8) (hn : ∀ p ∈ ps, ∀ nm x, p = .letx nm x → x.nodes ≤ 1000) :
    Calls Tryd.prog 31 #[.agg #[.string pred, .slice a l.length c, .int .i64 ag, .slice b ps.length d, .int .i64 at9]] w (SsRet w (news [] (varsL l ++ ps.flatMap pVars))) := by
  obtain ⟨M, hM⟩ : ∃ M, w.heap.size = M := ⟨_, rfl⟩
  have HM := Lib.hid hM
  have hr0 := hr
  obtain ⟨nl, hnl⟩ : ∃ n, l.length = n := ⟨_, rfl⟩
  obtain ⟨np, hnp⟩ : ∃ n, ps.length = n := ⟨_, rfl⟩
  have HNP := Lib.hid hnp
  have HP := Lib.hid hp
  have HNN := Lib.hid hn
  have hNM : N ≤ M := by omega
  rw [hnp] at hpl
  rw [hnl, hnp]
  have B0 : Hid (Below M w (w.alloc (.cells #[.string pred, .slice a nl c, .int .i64 ag, .slice b np d, .int .i64 at9] 71))) := Lib.hid (by rw [← hM]; exact (Below.refl _ _).alloc (Nat.le_refl _) _)
  have Z0 : Hid ((w.alloc (.cells #[.string pred, .slice a nl c, .int .i64 ag, .slice b np d, .int .i64 at9] 71)).heap[M]? = some (.cells #[.string pred, .slice a nl c, .int .i64 ag, .slice b np d, .int .i64 at9] 71 (0, 0))) := Lib.hid (by rw [← hM]; exact box16 w _ _)
  have S0 : Hid ((w.alloc (.cells #[.string pred, .slice a nl c, .int .i64 ag, .slice b np d, .int .i64 at9] 71)).heap.size = M + 1) := Lib.hid (by simp [hM])
  have OM : Hid (((w.alloc (.cells #[.string pred, .slice a nl c, .int .i64 ag, .slice b np d, .int .i64 at9] 71)).alloc (.map #[] 0)).ownsMap Tryd.prog 9 unitElem (M + 1) 0 (.map [] : DataW Unit)) := Lib.hid (by
    have := World.ownsMap_made (H := Unit) (w.alloc (.cells #[.string pred, .slice a nl c, .int .i64 ag, .slice b np d, .int .i64 at9] 71)) Tryd.prog 9 unitElem
    rw [S0.out] at this
    exact this)
  have BM : Below M w ((w.alloc (.cells #[.string pred, .slice a nl c, .int .i64 ag, .slice b np d, .int .i64 at9] 71)).alloc (.map #[] 0)) := B0.out.alloc (by rw [S0.out]; omega) _
  have SM : Hid (((w.alloc (.cells #[.string pred, .slice a nl c, .int .i64 ag, .slice b np d, .int .i64 at9] 71)).alloc (.map #[] 0)).heap.size = M + 2) := Lib.hid (by simp [hM])
  have CV := Lib.hid (atomVars_calls pred a l c N ((w.alloc (.cells #[.string pred, .slice a nl c, .int .i64 ag, .slice b np d, .int .i64 at9] 71)).alloc (.map #[] 0)) (by rw [SM.out]; omega) (hr0.on (BM.mono hNM)) (by omega))
  have LV : Hid ((varsL l).length ≤ 100 ∧ ∀ s ∈ varsL l, s.size ≤ 100) := Lib.hid ⟨by have := varsL_len l; omega, varsL_size hr0.1⟩
  have BMx : Hid (Below (M + 1) (w.alloc (.cells #[.string pred, .slice a nl c, .int .i64 ag, .slice b np d, .int .i64 at9] 71)) ((w.alloc (.cells #[.string pred, .slice a nl c, .int .i64 ag, .slice b np d, .int .i64 at9] 71)).alloc (.map #[] 0))) := Lib.hid ((Below.refl _ _).alloc (by rw [S0.out]; omega) _)
  rw [hnl] at CV
  clear hM hr hr0 hp hn hnl hnp hN BM
  generalize varsL l = tv at *
  have MX := HM.out
  have hmk := run_mk107
  go_enter Tryd.func31, Tryd.ntmps31
  go_wp2_with fail
  refine CV.out.mono ?_
  clear hmk
  have I0 : Hid (RVI M (M + 1) (w.alloc (.cells #[.string pred, .slice a nl c, .int .i64 ag, .slice b np d, .int .i64 at9] 71)) (.slice none 0 0) [] ((w.alloc (.cells #[.string pred, .slice a nl c, .int .i64 ag, .slice b np d, .int .i64 at9] 71)).alloc (.map #[] 0))) := Lib.hid ⟨BMx.out, so_nil _ _, ⟨_, OM.out, mapHas_nil⟩, by rw [SM.out]; omega, Nat.le_refl _⟩
  generalize World.alloc (World.alloc w _) _ = W1 at *
  have SW0 := S0
  have BW0 := B0
  have ZW0 := Z0
  generalize World.alloc w _ = W0 at *
  rintro e w2 ⟨z, rfl, hz, hbz⟩
  have CA := Lib.hid ((I0.out.below hbz).addNew (F := M + 2) (z := z) (ns := tv) (by rw [SM.out] at hz; exact hz) (fun b hb => by cases hb) (by omega) (by have := hbz.size; rw [SM.out] at this; exact this) (by have := LV.out.1; simp only [List.length_nil]; omega) (fun s hs => by have := LV.out.2 s hs; omega))
  have z2 := ((I0.out.below hbz).bel.block M (by omega)).trans ZW0.out
  obtain ⟨b0, b1, b2, b3, b4⟩ := cells5 z2
  clear hz hbz z2
  go_wp2_with fail
  refine CA.out.mono ?_
  rintro e w3 ⟨v3, rfl, I3⟩
  clear b0 b1 b2 b3 b4
  have z3 := (I3.bel.block M (by omega)).trans ZW0.out
  obtain ⟨c0, c1, c2, c3, c4⟩ := cells5 z3
  have LN : Hid ((news [] tv).length ≤ 100) := Lib.hid (by have h9 := news_len tv []; have := LV.out.1; simp only [List.length_nil] at h9; omega)
  have II := Lib.hid (show RVI M (M + 1) W0 v3 (news [] (tv ++ (ps.take 0).flatMap pVars)) w3 by simpa using I3)
  clear I3 z3 CA
  go_wp2_with fail
  clear c0 c1 c2 c3 c4
  go_loopw [4, 16] (fun v i wr => ∃ (k : Nat) (x : Value), k ≤ np ∧ i = .int .i64 k ∧ x = v ∧ Hid (RVI M (M + 1) W0 x (news [] (tv ++ (ps.take k).flatMap pVars)) wr) ∧ Hid ((news [] (tv ++ (ps.take k).flatMap pVars)).length ≤ 100 + 1001 * k)) (fun _ i _ => np - (intOf i).toNat)
  case atStart => exact ⟨0, _, Nat.zero_le _, rfl, rfl, II, Lib.hid (by simpa using LN.out)⟩
  case round =>
    obtain ⟨k, x, hk, rfl, rfl, HA, HL⟩ := hrel
    obtain ⟨Y, rfl⟩ : ∃ x, x = wr := ⟨wr, rfl⟩
    by_cases hlt : k < np
    · have hlP : k < ps.length := by rw [HNP.out]; exact hlt
      have BWY : Hid (Below M w Y) := Lib.hid (BW0.out.trans (HA.out.bel.mono (by omega)))
      obtain ⟨g, v0, v1, v2, v3, v4, v5, v6, v7, v8, v9, v10, v11, v12, v13, v14, v15, hadr, hpv, f0, f1, f2, f3, f4, f5, f6, f7, f8, f9, f10, f11, f12, f13, f14, f15⟩ := HP.out.at (BWY.out.mono hNM) hlP
      have hno := HNN.out _ (show ptAt ps k ∈ ps by simp only [ptAt, List.getElem?_eq_getElem hlP, Option.getD_some]; exact List.getElem_mem hlP)
      have TS : Hid (news [] (tv ++ (ps.take (k + 1)).flatMap pVars) = news (news [] (tv ++ (ps.take k).flatMap pVars)) (pVars (ptAt ps k))) := Lib.hid (by
        rw [← news_app, List.append_assoc, List.take_succ_eq_append_getElem hlP, List.flatMap_append, show ps[k] = ptAt ps k by simp [ptAt, hlP]]
        simp)
      generalize news [] (tv ++ (ps.take k).flatMap pVars) = acc at *
      generalize ptAt ps k = p at *
      obtain ⟨j0, j1, j2, l2, m2, j3, j4, j5, j6, j7, j8, j9, j10, j11, j12, j13, j14, j15, l15, m15, rfl, rfl, rfl, rfl, rfl, rfl, rfl, rfl, rfl, rfl, rfl, rfl, rfl, rfl, rfl, rfl⟩ := pt_shape hpv
      subst hadr
      obtain ⟨hpl1, hps1⟩ := pVars_ok hpv hno
      have hYM : M + 1 < Y.heap.size := HA.out.sz
      have BY : Hid (Below Y.heap.size Y (Y.alloc (.cells #[.int .i64 j0, .string j1, .slice j2 l2 m2, .int .i64 j3, .int .i64 j4, .string j5, .int .i64 j6, .int .i64 j7, .string j8, .int .i64 j9, .string j10, .int .i64 j11, .string j12, .int .i64 j13, .int .i64 j14, .slice j15 l15 m15] 59))) := Lib.hid ((Below.refl _ _).alloc (Nat.le_refl _) _)
      have CP := Lib.hid (pv_calls (hpv.on (w' := Y.alloc (.cells #[.int .i64 j0, .string j1, .slice j2 l2 m2, .int .i64 j3, .int .i64 j4, .string j5, .int .i64 j6, .int .i64 j7, .string j8, .int .i64 j9, .string j10, .int .i64 j11, .string j12, .int .i64 j13, .int .i64 j14, .slice j15 l15 m15] 59)) (BY.out.mono (by omega))) (by simp; omega) hno)
      have SY : Hid ((Y.alloc (.cells #[.int .i64 j0, .string j1, .slice j2 l2 m2, .int .i64 j3, .int .i64 j4, .string j5, .int .i64 j6, .int .i64 j7, .string j8, .int .i64 j9, .string j10, .int .i64 j11, .string j12, .int .i64 j13, .int .i64 j14, .slice j15 l15 m15] 59)).heap.size = Y.heap.size + 1) := Lib.hid (by simp)
      have HPL : Hid ((pVars p).length ≤ 1001 ∧ ∀ s ∈ pVars p, s.size ≤ 100) := Lib.hid ⟨hpl1, hps1⟩
      have I1 := Lib.hid (HA.out.below BY.out)
      have HOB : Hid (∀ b, x.ownBlock = some b → b < Y.heap.size) := Lib.hid (fun b hb => (HA.out.own.lt b hb).2)
      clear hpl1 hps1 hpv hno
      generalize pVars p = tp at *
      go_wp2_with fail
      refine CP.out.mono ?_
      generalize World.alloc Y _ = Y1 at *
      rintro e w5 ⟨z, rfl, hz, hbz⟩
      have CA := Lib.hid ((I1.out.below hbz).addNew (F := Y1.heap.size) (z := z) (ns := tp) hz (fun b hb => by have := HOB.out b hb; rw [SY.out]; omega) (by rw [SY.out]; omega) hbz.size (by have := HL.out; have := HPL.out.1; omega) (fun s hs => by have := HPL.out.2 s hs; omega))
      clear hz hbz
      go_wp2_with fail
      refine CA.out.mono ?_
      rintro e w6 ⟨v6, rfl, I6⟩
      have I7 : Hid (RVI M (M + 1) W0 v6 (news [] (tv ++ (ps.take (k + 1)).flatMap pVars)) w6) := Lib.hid (by rw [TS.out]; exact I6)
      have L7 : Hid ((news [] (tv ++ (ps.take (k + 1)).flatMap pVars)).length ≤ 100 + 1001 * (k + 1)) := Lib.hid (by rw [TS.out]; have := news_len tp acc; have := HL.out; have := HPL.out.1; omega)
      clear I6 CA CP
      go_wp2_with fail
      go_roundw
      case rel => exact ⟨k + 1, _, by omega, by go_num, rfl, I7, L7⟩
      case measure => simp [intOf]; omega
    · obtain rfl : k = np := by omega
      have TL : Hid (ps.take k = ps) := Lib.hid (List.take_of_length_le (by rw [HNP.out]; exact Nat.le_refl _))
      rw [TL.out] at HA
      have RS : Hid (SO w.heap.size Y x (news [] (tv ++ ps.flatMap pVars)) ∧ Below w.heap.size w Y) := Lib.hid (by rw [HM.out]; exact ⟨HA.out.own.mono (by omega), BW0.out.trans (HA.out.bel.mono (by omega))⟩)
      go_wp2_with fail
      go_ret
      exact ⟨_, rfl, RS.out.1, RS.out.2⟩
end Go.Proofs.YtaglbeokecbihaaDoor
