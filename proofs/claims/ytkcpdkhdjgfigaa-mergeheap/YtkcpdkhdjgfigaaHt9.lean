/- The walk of MergeHeap. -/
import Derived.Test.YtkcpdkhdjgfigaaHt8
import Derived.Test.YtkcpdkhdjgfigaaSg18
namespace Go.Proofs.Ytkcpdkhdjgfigaa
open Go.RowKit
set_option linter.unusedVariables false
set_option linter.unusedSimpArgs false

def Asc (bs : List TE) (p : Nat) : Prop := bs.Pairwise (fun a b => a.2 < b.2) ∧ ∀ x ∈ bs, x.2 < (p : Int)
theorem Asc.push {bs : List TE} {p : Nat} (h : Asc bs p) (t : Int × Int) : Asc (bs ++ [(t, (p : Int))]) (p + 1) := by
  refine ⟨List.pairwise_append.2 ⟨h.1, List.pairwise_singleton _ _, fun a ha b hb => ?_⟩, fun x hx => ?_⟩
  · rw [List.mem_singleton] at hb; subst hb; exact h.2 a ha
  · rcases List.mem_append.1 hx with h1 | h1
    · have := h.2 x h1; omega
    · rw [List.mem_singleton] at h1; subst h1; simp; omega
theorem Asc.erase {bs : List TE} {p : Nat} (h : Asc bs p) (f : Nat) : Asc (bs.eraseIdx f) p :=
  ⟨h.1.sublist (List.eraseIdx_sublist _ _), fun x hx => h.2 x ((List.eraseIdx_sublist _ _).subset hx)⟩
theorem flat_take (ts : List (Int × Int)) (k : Nat) : flat (ts.take k) = (flat ts).take (k * 2) := by
  induction ts generalizing k with
  | nil => simp [flat]
  | cons x ts ih =>
    cases k with
    | zero => simp [flat]
    | succ k => rw [List.take_succ_cons, flat_cons, flat_cons, ih, show (k + 1) * 2 = k * 2 + 1 + 1 by omega]; rfl
theorem flat_drop (ts : List (Int × Int)) (k : Nat) : flat (ts.drop k) = (flat ts).drop (k * 2) := by
  induction ts generalizing k with
  | nil => simp [flat]
  | cons x ts ih =>
    cases k with
    | zero => simp [flat]
    | succ k => rw [List.drop_succ_cons, flat_cons, ih, show (k + 1) * 2 = k * 2 + 1 + 1 by omega]; rfl
theorem erase_map (bs : List TE) (f : Nat) : (bs.map (·.1)).eraseIdx f = (bs.eraseIdx f).map (·.1) := by
  rw [List.eraseIdx_eq_take_drop_succ, List.eraseIdx_eq_take_drop_succ, List.map_append, List.map_take, List.map_drop]
theorem flat_one (ts : List (Int × Int)) : ∀ u ∈ flat ts, u.oneCell' = true := by
  intro u hu
  unfold flat at hu
  obtain ⟨t, _, h⟩ := List.mem_flatMap.1 hu
  simp at h
  rcases h with rfl | rfl <;> rfl
/-- append(append([]Thing{}, list[:f]...), list[f+1:]...): both runs, and what they leave. -/
theorem cut_runs {C : Nat} {V : World} {r cap f so sc : Nat} {ts : List (Int × Int)} {i0 : TypeInfo} (hi : Try.prog.info? 48 = some i0) (hz0 : i0.zero = some (.agg #[.int .i64 0, .int .i64 0])) (hz1 : i0.size = 2) (hz2 : i0.bytes = 16)
    (hown : V.ownsRow C 48 2 (.slice (some ⟨r, 0, none⟩) ts.length cap) ts.length (flat ts)) (hf : f < ts.length) (hl : ts.length ≤ 200) (hC : C ≤ V.heap.size) (hso : so = (f + 1) * 2 ∨ ts.length = f + 1) :
    ∃ av1 c1 w1 av2 c2 w2, (appM #[50, 50] 50 #[.slice (some ⟨V.heap.size, 0, none⟩) 0 0, .slice (some ⟨r, 0, none⟩) f cap]).run Try.prog (V.alloc (.cells #[] 48)).drew = .ok (.slice av1 f c1) w1 ∧
      (appM #[50, 50] 50 #[.slice av1 f c1, .slice (some ⟨r, so, none⟩) (ts.length - (f + 1)) sc]).run Try.prog w1 = .ok (.slice av2 (f + (ts.length - (f + 1))) c2) w2 ∧
      w2.ownsRow C 48 2 (.slice av2 (f + (ts.length - (f + 1))) c2) (ts.eraseIdx f).length (flat (ts.eraseIdx f)) ∧ Below V.heap.size V w2 ∧ ∀ b, (Value.slice av2 (f + (ts.length - (f + 1))) c2).ownBlock = some b → V.heap.size ≤ b := by
  have hrl : r < V.heap.size := (hown.lt r rfl).2
  have hO1 : (V.alloc (.cells #[] 48)).drew.ownsRow C 48 2 (.slice (some ⟨V.heap.size, 0, none⟩) 0 0) 0 [] := (World.ownsRow_lit (base := C) (e := 48) (size := 2) V #[] 0 hC (by decide) rfl).drew
  have cell : ∀ (W : World) (j : Nat) (u : Value), W.heap[r]? = V.heap[r]? → (flat ts)[j]? = some u → W.cell? ⟨r, j, none⟩ = some u := fun W j u hW hu => by
    rw [World.cell?_of_block (a := ⟨r, j, none⟩) hW]
    have hj : j < ts.length * 2 := by have := (List.getElem?_eq_some_iff.1 hu).1; rw [flat_len] at this; exact this
    rw [hown.cellAt j hj]; exact hu
  have hb0 : (V.alloc (.cells #[] 48)).drew.heap[r]? = V.heap[r]? := Below.heap_alloc V _ r hrl
  obtain ⟨av1, c1, w1, hr1, ho1, hg1, hat1⟩ := run_append_any (P := Try.prog) (V.alloc (.cells #[] 48)).drew 50 50 C 48 i0 _ 2 16 Try.underlying50 hi hz0 hz1 hz2 rfl (by omega) (.slice (some ⟨V.heap.size, 0, none⟩) 0 0) 0 [] hO1 ⟨r, 0, none⟩ f cap (flat (ts.take f)) (by rw [flat_len, List.length_take]; omega) (fun j u hu => by
      rw [show (⟨r, 0, none⟩ : Addr).add j = ⟨r, 0 + j, none⟩ from by unfold Addr.add; split <;> simp_all]
      rw [Nat.zero_add]
      refine cell _ j u hb0 ?_
      rw [flat_take] at hu
      exact (List.getElem?_take_of_lt (by have := (List.getElem?_eq_some_iff.1 hu).1; simp at this; omega)).symm.trans hu) (flat_one _) (by unfold maxLen; omega) (by omega) (by show C ≤ (V.alloc _).heap.size; simp; omega)
  rw [Nat.zero_add] at hr1 ho1 hat1
  have s0 : (V.alloc (.cells #[] 48)).drew.heap.size = V.heap.size + 1 := by show (V.alloc _).heap.size = _; simp
  have s1 := hg1.size
  rw [s0] at s1
  have hv1 : ∀ b, (Value.slice av1 f c1).ownBlock = some b → V.heap.size ≤ b := fun b hb => by
    rcases hat1 with e | e
    · rw [e] at hb; simp [Value.ownBlock] at hb; omega
    · rw [e, s0] at hb; simp at hb; omega
  have hb1 : w1.heap[r]? = V.heap[r]? := (hg1.block r (by rw [s0]; omega) (by simp [Value.ownBlock]; omega)).trans hb0
  obtain ⟨av2, c2, w2, hr2, ho2, hg2, hat2⟩ := run_append_any (P := Try.prog) w1 50 50 C 48 i0 _ 2 16 Try.underlying50 hi hz0 hz1 hz2 rfl (by omega) (.slice av1 f c1) f _ ho1 ⟨r, so, none⟩ (ts.length - (f + 1)) sc (flat (ts.drop (f + 1))) (by rw [flat_len, List.length_drop]) (fun j u hu => by
      rw [show (⟨r, so, none⟩ : Addr).add j = ⟨r, so + j, none⟩ from by unfold Addr.add; split <;> simp_all]
      rcases hso with rfl | e
      · refine cell _ _ u hb1 ?_
        rw [flat_drop, List.getElem?_drop] at hu
        exact hu
      · rw [List.drop_eq_nil_of_le (by omega)] at hu; simp [flat] at hu) (flat_one _) (by unfold maxLen; omega) (by omega) (by omega)
  have s2 := hg2.size
  refine ⟨av1, c1, w1, av2, c2, w2, hr1, hr2, ?_, ?_, fun b hb => ?_⟩
  · rw [List.nil_append, ← flat_append, ← List.eraseIdx_eq_take_drop_succ] at ho2
    rw [List.length_eraseIdx_of_lt hf]
    rw [show ts.length - 1 = f + (ts.length - (f + 1)) by omega]
    exact ho2
  · exact ⟨hg2.os.trans hg1.os, hg2.tape.trans hg1.tape, hg2.output.trans hg1.output, by omega, fun k hk => (hg2.block k (by omega) (fun e => by have := hv1 k e.symm; omega)).trans ((hg1.block k (by rw [s0]; omega) (by simp [Value.ownBlock]; omega)).trans (Below.heap_alloc V _ k hk))⟩
  · rcases hat2 with e | e
    · rw [e] at hb; exact hv1 b hb
    · rw [e] at hb; simp at hb; omega
attribute [local go_sem ↓] app_rule
set_option maxRecDepth 100000 in
theorem heap_long (a : Option Addr) (ca : Nat) (acts : List (Bool × Int)) (w : World) (hl : 200 < acts.length) (hm : acts.length ≤ maxLen) :
    Calls Try.prog 8 #[.slice a acts.length ca] w (TrueRet w) := by
  unfold maxLen at hm
  have t0 : decide ((200 : Int) < (acts.length : Int)) = true := decide_eq_true (by omega)
  go_enter Try.func8, Try.ntmps8
  go_wp2_with fail
  refine (head6_calls _).mono ?_
  rintro e W0 ⟨rfl, hbh⟩
  have BW0 := Lib.hid hbh
  clear hbh
  go_wp2_with fail
  go_ret
  exact ⟨rfl, BW0.out⟩
set_option maxRecDepth 100000 in
set_option maxHeartbeats 8000000 in
theorem heap_full (a : Option Addr) (ca : Nat) (acts : List (Bool × Int)) (w : World) (hA : ActsAt w a acts) (hl : acts.length ≤ 200) :
    Calls Try.prog 8 #[.slice a acts.length ca] w (TrueRet w) := by
  obtain ⟨i0, hi, hz0, hz1, hz2⟩ := info_parts info48
  have I := Lib.hid hi
  have Z0 := Lib.hid hz0
  have Z1 := Lib.hid hz1
  have Z2 := Lib.hid hz2
  obtain ⟨B, hB⟩ : ∃ B, w.heap.size = B := ⟨_, rfl⟩
  have HB := Lib.hid hB
  have HA := Lib.hid hA
  have t0 : decide ((200 : Int) < (acts.length : Int)) = false := decide_eq_false (by omega)
  clear hi hz0 hz1 hz2 hB hA
  go_enter Try.func8, Try.ntmps8
  go_wp2_with fail
  refine (head6_calls _).mono ?_
  rintro e W0 ⟨rfl, hbh⟩
  rw [HB.out] at hbh
  have BW0 := Lib.hid hbh
  clear hbh
  go_wp2_with fail
  refine (Th.newheap_calls 30 _).mono ?_
  rintro e w1 ⟨rfl, rfl⟩
  go_wp2_with fail
  obtain ⟨C, hC⟩ : ∃ C, W0.heap.size = C := ⟨_, rfl⟩
  have HC := Lib.hid hC
  have hBC : Hid (B ≤ C) := Lib.hid (by have := BW0.out.size; rw [HB.out, hC] at this; exact this)
  have L0 := Lib.hid (ls_new hC)
  have B0 : Hid (Below C W0 ((W0.alloc (.cells #[Th.fT, .slice none 0 0, .int .i64 0] 85)).alloc (.cells #[] 48))) := Lib.hid (((Below.refl _ _).alloc (Nat.le_of_eq hC.symm) _).alloc (by simp; omega) _)
  rw [hC] at ⊢
  clear hC
  generalize World.alloc (World.alloc W0 _) _ = w5 at *
  generalize Value.slice (some ⟨C + 1, 0, none⟩) 0 0 = v0 at *
  go_loopw [20, 4] (fun s v wr => ∃ (i pc : Nat) (bs : List TE) (u : Value), i ≤ acts.length ∧ s = .int .i64 i ∧ u = v ∧ pc ≤ i ∧ bs.length ≤ pc ∧ Hid (LS C wr C u bs (bs.map (·.1)) pc) ∧ Hid (Asc bs pc) ∧ Hid (Below C W0 wr)) (fun s _ _ => acts.length - (intOf s).toNat)
  case atStart => exact ⟨0, 0, [], v0, Nat.zero_le _, rfl, rfl, Nat.le_refl _, Nat.le_refl _, L0, Lib.hid ⟨List.Pairwise.nil, fun x hx => by cases hx⟩, B0⟩
  case round =>
    obtain ⟨i, pc, bs, u, hi, rfl, rfl, hpi, hbp, HS, HAs, HL⟩ := hrel
    have hCr : C ≤ wr.heap.size := by have := HL.out.size; rw [HC.out] at this; exact this
    by_cases hlt : i < acts.length
    · obtain ⟨b, off, rfl, hb, q1, q2⟩ := (HA.out.belowB HB.out (BW0.out.trans (HL.out.mono hBC.out))).at hlt
      generalize atE acts i = act at *
      obtain ⟨pb, n⟩ := act
      simp only at q1 q2
      have bi : (0 : Int) ≤ (i : Int) := by omega
      have bi' : (i : Int) < (acts.length : Int) := by omega
      cases pb with
      | false =>
        have hbx0 : (wr.alloc (.cells #[.bool false, .int .i64 n] 52)).heap[wr.heap.size]? = some (.cells #[.bool false, .int .i64 n] 52 (0, 0)) := heap_alloc_new wr _
        have S1 := Lib.hid (HS.out.below ((Below.refl wr.heap.size wr).alloc (Nat.le_refl _) (.cells #[.bool false, .int .i64 n] 52)))
        have L1 := Lib.hid (HL.out.alloc hCr (.cells #[.bool false, .int .i64 n] 52))
        have HBx := Lib.hid hbx0
        clear hbx0
        go_wp2_with fail
        clear q1 q2
        have hsz : wr.heap.size < (wr.alloc (.cells #[.bool false, .int .i64 n] 52)).heap.size := by simp
        have HSZ := Lib.hid hsz
        clear hsz
        generalize World.alloc wr _ = W1 at *
        obtain ⟨ba, hba⟩ : ∃ x, wr.heap.size = x := ⟨_, rfl⟩
        rw [hba] at HBx HSZ ⊢
        clear hba
        refine (ls_push S1.out (n, (i : Int)) (by omega) (by omega) (by omega) HSZ.out ⟨_, HBx.out⟩).mono ?_
        rintro e W2 ⟨rfl, hs2, hb2, he2⟩
        have S2 := Lib.hid hs2
        have L2 := Lib.hid (L1.out.trans hb2)
        have r1 : W2.cell? ⟨ba, 1, none⟩ = some (.int .i64 n) := by rw [cell_of_row W2 ba 1 _ 52 (0, 0) (he2.trans HBx.out)]; rfl
        have hC2 : C ≤ W2.heap.size := hs2.size
        clear hs2 hb2 he2
        go_wp2_with (first | (at_builtin; refine wpList_append_own_at _ rfl _ _ 50 rfl C 48 i0 _ 2 16 Try.underlying50 I.out Z0.out Z1.out Z2.out rfl (by decide) _ _ _ rfl (S2.out.list.alloc _) ⟨W2.heap.size, 0, none⟩ 1 1 [.int .i64 n, .int .i64 i] rfl rfl ?c1 ?c2 ?c3 ?c4 ?c5 ?_))
        case c1 => exact World.news_of_block (cs := #[.int .i64 n, .int .i64 i]) (t := 48) (fr := (0, 0)) (heap_alloc_new W2 _)
        case c2 => intro u hu; simp at hu; rcases hu with rfl | rfl <;> rfl
        case c3 => unfold maxLen; simp; omega
        case c4 => simp; omega
        case c5 => simp; omega
        intro v1 w7 hown hgrow _ hat
        have S7 : Hid (LS C w7 C v1 (bs ++ [((n, (i : Int)), (pc : Int))]) ((bs ++ [((n, (i : Int)), (pc : Int))]).map (·.1)) ((pc : Int) + 1)) := Lib.hid (S2.out.relist (by rw [List.map_append, List.length_append, flat_append, List.length_map]; exact hown) (((Keeps.refl (fun b => u.ownBlock = some b) W2).alloc _).trans (Keeps.of_grown hgrow (fun b hb => hb))) (fun b hb => by
          rcases hat with e | e
          · left; rw [← e]; exact hb
          · right; rw [e] at hb; simp at hb; omega))
        have L7 := Lib.hid ((L2.out.alloc hC2 (.cells #[.int .i64 n, .int .i64 i] 48)).grown hgrow (by simp; omega) (fun k hk => (S2.out.list.lt k hk).1))
        have A7 := Lib.hid (HAs.out.push (n, (i : Int)))
        clear hown hgrow hat r1
        go_wp2_with fail
        go_roundw
        case rel => exact ⟨i + 1, pc + 1, _, v1, by omega, by go_num, rfl, by omega, by rw [List.length_append]; simp; omega, S7, A7, L7⟩
        case measure => simp [intOf]; omega
      | true =>
        have S1 := Lib.hid (HS.out.below ((Below.refl wr.heap.size wr).alloc (Nat.le_refl _) (.cells #[.bool true, .int .i64 n] 52)))
        have L1 := Lib.hid (HL.out.alloc hCr (.cells #[.bool true, .int .i64 n] 52))
        by_cases h0 : bs.length = 0
        · obtain rfl : bs = [] := List.eq_nil_of_length_eq_zero h0
          obtain ⟨ua, uc, rfl⟩ : ∃ ua uc, u = .slice ua 0 uc := by
            rcases HS.out.list.2 with ⟨e1, e2⟩ | ⟨g', cap', _, e1, _⟩
            · exact ⟨_, _, e1⟩
            · exact ⟨_, _, e1⟩
          clear h0
          go_wp2_with fail
          clear q1 q2
          generalize World.alloc wr _ = W1 at *
          refine (ls_pop_none S1.out).mono ?_
          rintro e W2 ⟨rfl, hb2⟩
          have S2 := Lib.hid ((S1.out.below hb2).below ((Below.refl _ _).alloc (Nat.le_refl _) (.cells #[.int .i64 0, .int .i64 0] 48)))
          have L2 := Lib.hid ((L1.out.trans (hb2.mono S1.out.size)).alloc (Nat.le_trans S1.out.size hb2.size) (.cells #[.int .i64 0, .int .i64 0] 48))
          clear hb2
          go_wp2_with fail
          go_roundw
          case rel => exact ⟨i + 1, pc, [], _, by omega, by go_num, rfl, by omega, by simp, S2, HAs, L2⟩
          case measure => simp [intOf]; omega
        · obtain ⟨r, cap, rfl, hlc, hrl⟩ : ∃ r cap, u = .slice (some ⟨r, 0, none⟩) bs.length cap ∧ bs.length ≤ cap ∧ cap ≤ maxLen := by
            rcases HS.out.list.2 with ⟨e1, e2⟩ | ⟨g', cap', cur, e1, _, _, h5, h6, _⟩
            · rw [List.length_map] at e2; exact absurd e2 h0
            · rw [List.length_map] at e1 h5; exact ⟨_, _, e1, h5, h6⟩
          unfold maxLen at hrl
          go_wp2_with fail
          clear q1 q2
          generalize World.alloc wr _ = W1 at *
          refine (ls_pop S1.out (by omega) (by omega)).mono ?_
          rintro e W2 ⟨x, hb', rfl, hperm, hmin, hs2, hb2⟩
          have S2 := Lib.hid hs2
          have L2 := Lib.hid (L1.out.trans hb2)
          have PM := Lib.hid hperm
          have MN := Lib.hid hmin
          clear hs2 hb2 hperm hmin
          obtain ⟨⟨x1, x2⟩, x3⟩ := x
          simp only
          have tz : ((bs.length : Int) == 0) = false := beq_eq_false_iff_ne.2 (by omega)
          go_wp2_with fail
          have S3 := Lib.hid (S2.out.below ((Below.refl _ _).alloc (Nat.le_refl _) (.cells #[.int .i64 x1, .int .i64 x2] 48)))
          have L3 := Lib.hid (L2.out.alloc S2.out.size (.cells #[.int .i64 x1, .int .i64 x2] 48))
          have k7a : (W2.alloc (.cells #[.int .i64 x1, .int .i64 x2] 48)).cell? ⟨W2.heap.size, 0, none⟩ = some (.int .i64 x1) := by go_simp
          have k7b : (W2.alloc (.cells #[.int .i64 x1, .int .i64 x2] 48)).cell? ⟨W2.heap.size, 1, none⟩ = some (.int .i64 x2) := by go_simp
          have K7A := Lib.hid k7a
          have K7B := Lib.hid k7b
          clear k7a k7b
          generalize World.alloc W2 _ = W3 at *
          generalize W2.heap.size = b7 at *
          have OL : Hid (W3.ownsRow C 48 2 (.slice (some ⟨r, 0, none⟩) bs.length cap) bs.length (flat (bs.map (·.1)))) := Lib.hid (by have := S3.out.list; rw [List.length_map] at this; exact this)
          go_loopw [57, 9] (fun s t wv => ∃ k f q : Nat, k ≤ bs.length ∧ s = .int .i64 k ∧ t = .int .i64 f ∧ f ≤ k ∧ f < bs.length ∧ Hid (BestTo (bs.map (·.1)) k f) ∧ Hid (wv = W3.drewN q)) (fun s _ _ => bs.length - (intOf s).toNat)
          case atStart => exact ⟨0, 0, 0, Nat.zero_le _, rfl, rfl, Nat.le_refl _, by omega, Lib.hid (best_start (by rw [List.length_map]; omega)), Lib.hid rfl⟩
          case round =>
            obtain ⟨k, f, q, hk, rfl, rfl, hfk, hfl, HBt, HW⟩ := hrel
            obtain ⟨ff1, ff2⟩ := flat_at (es := bs.map (·.1)) (i := f) (by rw [List.length_map]; exact hfl)
            have dk : Hid (∀ j, wr.cell? ⟨r, j, none⟩ = W3.cell? ⟨r, j, none⟩) := Lib.hid (fun j => by rw [HW.out]; rfl)
            by_cases hkl : k < bs.length
            · obtain ⟨fk1, fk2⟩ := flat_at (es := bs.map (·.1)) (i := k) (by rw [List.length_map]; exact hkl)
              have c1 := OL.out.cellAt (k * 2) (by omega)
              have c2 := OL.out.cellAt (f * 2) (by omega)
              rw [fk1] at c1
              rw [ff1] at c2
              rw [← dk.out] at c1 c2
              have BY := Lib.hid (best_yes (k := k) HBt.out (by rw [List.length_map]; exact hkl))
              have BN := Lib.hid (best_no (k := k) HBt.out hfk)
              generalize (atE (List.map (fun (x : TE) => x.1) bs) k).1 = y at *
              generalize (atE (List.map (fun (x : TE) => x.1) bs) f).1 = z at *
              have i1 : (k : Int) < (bs.length : Int) := by omega
              have i2 : (f : Int) < (bs.length : Int) := by omega
              have i3 : (0 : Int) ≤ (k : Int) := by omega
              have i4 : (0 : Int) ≤ (f : Int) := by omega
              clear ff1 ff2 fk1 fk2
              by_cases hyz : y < z
              · have B2 := Lib.hid (BY.out hyz)
                go_wp2_with fail
                go_quiet (fail)
                go_wp2_with fail
                go_roundw
                case rel => exact ⟨k + 1, k, _, by omega, by go_num, rfl, by omega, by omega, B2, Lib.hid (by first | exact drewM HW.out | exact drewM2 HW.out)⟩
                case measure => simp [intOf]; omega
              · have B2 := Lib.hid (BN.out hyz)
                have ty : decide (y < z) = false := decide_eq_false hyz
                clear hyz
                go_wp2_with fail
                go_quiet (fail)
                go_wp2_with fail
                go_roundw
                case rel => exact ⟨k + 1, f, _, by omega, by go_num, rfl, by omega, hfl, B2, Lib.hid (by first | exact drewM HW.out | exact drewM2 HW.out)⟩
                case measure => simp [intOf]; omega
            · obtain rfl : k = bs.length := by omega
              have BI := best_is HAs.out.1 PM.out MN.out HBt.out
              have ex : atE (bs.map (·.1)) f = (x1, x2) := by rw [map_atE hfl, BI.1]
              have PM2 := Lib.hid BI.2
              have c1 := OL.out.cellAt (f * 2) (by omega)
              have c2 := OL.out.cellAt (f * 2 + 1) (by omega)
              rw [ff1, ex] at c1
              rw [ff2, ex] at c2
              simp only at c1 c2
              have S4 : Hid (LS C wr C (.slice (some ⟨r, 0, none⟩) bs.length cap) hb' (bs.map (·.1)) pc) := Lib.hid (by rw [HW.out]; exact S3.out.drewN q)
              have L4 : Hid (Below C W0 wr) := Lib.hid (by rw [HW.out]; exact below_drewN L3.out q)
              have e1 : wr.cell? ⟨b7, 0, none⟩ = some (.int .i64 x1) := by rw [HW.out]; exact K7A.out
              have e2 : wr.cell? ⟨b7, 1, none⟩ = some (.int .i64 x2) := by rw [HW.out]; exact K7B.out
              rw [← dk.out] at c1 c2
              have i2 : (f : Int) < (bs.length : Int) := by omega
              have i4 : (0 : Int) ≤ (f : Int) := by omega
              clear BI ex ff1 ff2 dk
              go_wp2_with fail
              go_quiet (fail)
              go_wp2_with fail
              have S5 : Hid (LS C (wr.drewN nq) C (.slice (some ⟨r, 0, none⟩) bs.length cap) hb' (bs.map (·.1)) pc) := Lib.hid (S4.out.drewN nq)
              have L5 : Hid (Below C W0 (wr.drewN nq)) := Lib.hid (below_drewN L4.out nq)
              clear c1 c2 e1 e2 S4 L4 HW
              generalize wr.drewN nq = V at *
              have OL5 : Hid (V.ownsRow C 48 2 (.slice (some ⟨r, 0, none⟩) (bs.map (·.1)).length cap) (bs.map (·.1)).length (flat (bs.map (·.1)))) := Lib.hid (by have := S5.out.list; rw [List.length_map] at this ⊢; exact this)
              have j1 : (f : Int) ≤ (cap : Int) := by omega
              have j2 : (f : Int) + 1 ≤ (bs.length : Int) := by omega
              have j3 : (bs.length : Int) ≤ (cap : Int) := by omega
              by_cases hcf : cap = f + 1
              · have HBL : Hid (bs.length = f + 1) := Lib.hid (by omega)
                obtain rfl : cap = f + 1 := hcf
                have jj : (f : Int) ≤ (f : Int) + 1 := by omega
                have jk : (bs.length : Int) ≤ (f : Int) + 1 := by omega
                obtain ⟨av1, d1, w1, av2, d2, w2, hr1, hr2, ho2, hb2, hat2⟩ := cut_runs (so := 0) (sc := 0) I.out Z0.out Z1.out Z2.out OL5.out (by rw [List.length_map]; exact hfl) (by rw [List.length_map]; omega) S5.out.size (.inr (by rw [List.length_map]; exact HBL.out))
                rw [List.length_map] at hr2 ho2 hat2
                have hz : bs.length - (f + 1) = 0 := by have := HBL.out; omega
                rw [hz, Nat.add_zero] at hr2 ho2 hat2
                clear hz
                have S6 : Hid (LS C w2 C (.slice av2 f d2) (bs.eraseIdx f) ((bs.eraseIdx f).map (·.1)) pc) := Lib.hid (by
                  have hq := S5.out.relist (ts' := (bs.map (·.1)).eraseIdx f) ho2 (Keeps.of_below hb2) (fun b hb => .inr (hat2 b hb))
                  obtain ⟨own, bag, k1, k2, k3⟩ := hq.heap
                  rw [erase_map] at hq
                  exact ⟨⟨own, bag, k1, k2.trans PM2.out, k3⟩, hq.list, hq.size⟩)
                have L6 : Hid (Below C W0 w2) := Lib.hid (L5.out.trans (hb2.mono S5.out.size))
                clear ho2 hb2 hat2
                go_region
                go_wp2_with fail
                go_roundw
                case rel => exact ⟨i + 1, pc, bs.eraseIdx f, _, by omega, by go_num, rfl, by omega, by rw [List.length_eraseIdx_of_lt hfl]; omega, S6, Lib.hid (HAs.out.erase f), L6⟩
                case measure => simp [intOf]; omega
              · have hcg : f + 1 < cap := by omega
                obtain ⟨av1, d1, w1, av2, d2, w2, hr1, hr2, ho2, hb2, hat2⟩ := cut_runs (so := (f + 1) * 2) (sc := cap - (f + 1)) I.out Z0.out Z1.out Z2.out OL5.out (by rw [List.length_map]; exact hfl) (by rw [List.length_map]; omega) S5.out.size (.inl rfl)
                rw [List.length_map] at hr2 ho2 hat2
                have S6 : Hid (LS C w2 C (.slice av2 (f + (bs.length - (f + 1))) d2) (bs.eraseIdx f) ((bs.eraseIdx f).map (·.1)) pc) := Lib.hid (by
                  have hq := S5.out.relist (ts' := (bs.map (·.1)).eraseIdx f) ho2 (Keeps.of_below hb2) (fun b hb => .inr (hat2 b hb))
                  obtain ⟨own, bag, k1, k2, k3⟩ := hq.heap
                  rw [erase_map] at hq
                  exact ⟨⟨own, bag, k1, k2.trans PM2.out, k3⟩, hq.list, hq.size⟩)
                have L6 : Hid (Below C W0 w2) := Lib.hid (L5.out.trans (hb2.mono S5.out.size))
                clear ho2 hb2 hat2
                go_region
                go_wp2_with fail
                go_roundw
                case rel => exact ⟨i + 1, pc, bs.eraseIdx f, _, by omega, by go_num, rfl, by omega, by rw [List.length_eraseIdx_of_lt hfl]; omega, S6, Lib.hid (HAs.out.erase f), L6⟩
                case measure => simp [intOf]; omega
    · have E2 : Hid (acts.length ≤ i) := Lib.hid (by omega)
      have tl : decide (i < acts.length) = false := decide_eq_false hlt
      have cl := ls_len HS.out
      obtain ⟨ua, uc, rfl⟩ : ∃ ua uc, u = .slice ua bs.length uc := by
        rcases HS.out.list.2 with ⟨e1, e2⟩ | ⟨g', cap', _, e1, _⟩
        · rw [List.length_map] at e2; rw [e2]; exact ⟨_, _, e1⟩
        · rw [List.length_map] at e1; exact ⟨_, _, e1⟩
      go_wp2_with fail
      refine cl.mono ?_
      rintro e w' ⟨rfl, rfl⟩
      go_wp2_with fail
      go_ret
      exact ⟨rfl, by rw [HB.out]; exact BW0.out.trans (HL.out.mono hBC.out)⟩
end Go.Proofs.Ytkcpdkhdjgfigaa
