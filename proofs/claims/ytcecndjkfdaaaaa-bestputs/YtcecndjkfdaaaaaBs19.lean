/- The law's put. Written by mkbs19.py. -/
import Derived.Test.YtcecndjkfdaaaaaBs18
import Derived.Laws.AppendOwnNone
namespace Go.Proofs.Ytcecndjkfdaaaaa
open Go.RowKit Go.Maps
set_option linter.unusedVariables false
set_option linter.unusedSimpArgs false

def lputE (great : Bool) (es : List Ent) (k : List Int) (c : Int) : List Ent :=
  match lookE es k with
  | none => es ++ [(k, c)]
  | some d => if betterB great c d = true then es.eraseIdx (spotE es k) ++ [(k, c)] else es
/-- The first j rows but the one at iz. -/
def skipE (L : List RV) (iz : Int) (j : Nat) : List RV := ((List.range j).filter fun (t : Nat) => decide ((t : Int) ≠ iz)).map (atV L)
theorem skip_succ (L : List RV) (iz : Int) (j : Nat) : skipE L iz (j + 1) = skipE L iz j ++ (if (j : Int) = iz then [] else [atV L j]) := by
  unfold skipE
  rw [List.range_succ, List.filter_append, List.map_append]
  by_cases h : (j : Int) = iz <;> simp [h]
theorem skip_none (L : List RV) : skipE L (-1) L.length = L := by
  unfold skipE
  have : (List.range L.length).filter (fun (t : Nat) => decide ((t : Int) ≠ -1)) = List.range L.length := by
    rw [List.filter_eq_self]; intro t ht; rw [decide_eq_true_eq]; omega
  rw [this]
  apply List.ext_getElem?
  intro i
  by_cases h : i < L.length
  · simp [h, atV]
  · simp [h]
theorem skip_take {L : List RV} {i0 : Nat} : ∀ j, j ≤ L.length → skipE L (i0 : Int) j = (L.take j).eraseIdx i0
  | 0, _ => by simp [skipE]
  | j + 1, h => by
    rw [skip_succ, skip_take j (by omega), List.take_succ_eq_append_getElem (by omega)]
    have hl : (L.take j).length = j := by simp; omega
    rcases Nat.lt_trichotomy i0 j with h1 | h1 | h1
    · rw [List.eraseIdx_append_of_lt_length (by omega), if_neg (by omega), atV_eq (by omega)]
    · subst h1
      rw [List.eraseIdx_append_of_length_le (by omega), hl, if_pos rfl]
      rw [List.eraseIdx_of_length_le (by omega)]
      simp
    · rw [List.eraseIdx_append_of_length_le (by omega), if_neg (by omega), atV_eq (by omega), hl]
      rw [List.eraseIdx_of_length_le (by omega), List.eraseIdx_of_length_le (by simp; omega)]
theorem skip_at {L : List RV} (i0 : Nat) : skipE L (i0 : Int) L.length = L.eraseIdx i0 := by rw [skip_take _ (Nat.le_refl _), List.take_length]
theorem skip_len (L : List RV) (iz : Int) (j : Nat) : (skipE L iz j).length ≤ j := by
  unfold skipE
  rw [List.length_map]
  have := List.length_filter_le (fun (t : Nat) => decide ((t : Int) ≠ iz)) (List.range j)
  simpa using this
theorem map_erase {L : List RV} {es : List Ent} (h : L.map (·.2.1) = es.map rowE) (i : Nat) : (L.eraseIdx i).map (·.2.1) = (es.eraseIdx i).map rowE := by
  rw [List.eraseIdx_eq_take_drop_succ, List.eraseIdx_eq_take_drop_succ, List.map_append, List.map_append, List.map_take, List.map_drop, List.map_take, List.map_drop, h]
theorem mem_lput {great : Bool} {es : List Ent} {k : List Int} {c : Int} {e : Ent} (h : e ∈ lputE great es k c) : e = (k, c) ∨ e ∈ es := by
  unfold lputE at h
  split at h
  · rcases List.mem_append.1 h with h | h
    · exact .inr h
    · exact .inl (by simpa using h)
  · split at h
    · rcases List.mem_append.1 h with h | h
      · exact .inr (List.mem_of_mem_eraseIdx h)
      · exact .inl (by simpa using h)
    · exact .inr h
theorem erase_no {es : List Ent} (hd : DistE es) {k : List Int} {d : Int} (hl : lookE es k = some d) : ∀ e ∈ es.eraseIdx (spotE es k), e.1 ≠ k := by
  induction es with
  | nil => simp [lookE] at hl
  | cons x es ih =>
    obtain ⟨h1, h2⟩ := List.pairwise_cons.1 hd
    by_cases h : x.1 = k
    · simp only [spotE, h, if_true, List.eraseIdx_cons_zero]
      intro e he
      rw [← h]
      exact fun e2 => h1 e he e2.symm
    · simp only [lookE, h, if_false] at hl
      simp only [spotE, h, if_false, List.eraseIdx_cons_succ]
      intro e he
      rcases List.mem_cons.1 he with rfl | he
      · exact h
      · exact ih h2 hl e he
theorem dist_lput {es : List Ent} (hd : DistE es) (great : Bool) (k : List Int) (c : Int) : DistE (lputE great es k c) := by
  unfold lputE
  cases hl : lookE es k with
  | none =>
    simp only
    unfold DistE
    rw [List.pairwise_append]
    refine ⟨hd, by simp, fun x hx y hy => ?_⟩
    obtain rfl : y = (k, c) := by simpa using hy
    exact look_none.1 hl x hx
  | some d =>
    simp only
    split
    · unfold DistE
      rw [List.pairwise_append]
      refine ⟨List.Pairwise.sublist (List.eraseIdx_sublist _ _) hd, by simp, fun x hx y hy => ?_⟩
      obtain rfl : y = (k, c) := by simpa using hy
      exact erase_no hd hl x hx
    · exact hd
theorem OkE.lput {wd : Nat} {es : List Ent} (h : OkE wd es) (great : Bool) {k : List Int} (hl : k.length = wd) (hr : InRange k) (c : Int) : OkE wd (lputE great es k c) :=
  ⟨dist_lput h.dist great k c, (fun e he => by
    rcases mem_lput he with rfl | he
    · exact hl
    · exact h.len e he), (fun e he => by
    rcases mem_lput he with rfl | he
    · exact hr
    · exact h.rng e he)⟩
/-- Both ways of putting give the same costs. -/
theorem look_lput {es : List Ent} (hd : DistE es) (great : Bool) (k k' : List Int) (c : Int) : lookE (lputE great es k c) k' = if k = k' then (if putB great es k c = true then some c else lookE es k) else lookE es k' := by
  have hd2 := dist_lput hd great k c
  apply Option.ext
  intro x
  rw [← mem_look hd2]
  unfold lputE putB
  cases hl : lookE es k with
  | none =>
    simp only [List.mem_append, List.mem_singleton, Prod.mk.injEq, if_true]
    by_cases hk : k = k'
    · subst hk
      rw [if_pos rfl, mem_look hd, hl]
      simp [eq_comm]
    · rw [if_neg hk, mem_look hd]
      have : ¬ k' = k := fun e => hk e.symm
      simp [this]
  | some d =>
    simp only
    by_cases hb : betterB great c d = true
    · rw [if_pos hb, if_pos hb]
      simp only [List.mem_append, List.mem_singleton, Prod.mk.injEq]
      by_cases hk : k = k'
      · subst hk
        rw [if_pos rfl]
        constructor
        · rintro (h1 | h1)
          · exact absurd rfl (erase_no hd hl _ h1)
          · rw [h1.2]
        · intro h1; exact .inr ⟨rfl, by simpa using h1.symm⟩
      · rw [if_neg hk, ← mem_look hd]
        have : ¬ k' = k := fun e => hk e.symm
        constructor
        · rintro (h1 | h1)
          · exact List.mem_of_mem_eraseIdx h1
          · exact absurd h1.1 this
        · intro h1
          left
          rw [List.mem_eraseIdx_iff_getElem?]
          obtain ⟨j, hj, e⟩ := List.getElem_of_mem h1
          refine ⟨j, fun e2 => ?_, by rw [List.getElem?_eq_getElem hj, e]⟩
          have := spot_at hl
          rw [← e2, List.getElem?_eq_getElem hj, e] at this
          simp only [Option.some.injEq, Prod.mk.injEq] at this
          exact hk this.1.symm
    · rw [if_neg hb, if_neg hb, mem_look hd]
      by_cases hk : k = k'
      · subst hk; rw [if_pos rfl, hl]
      · rw [if_neg hk]
theorem lput_len (great : Bool) (es : List Ent) (k : List Int) (c : Int) : (lputE great es k c).length = es.length + if (lookE es k).isSome = true then 0 else 1 := by
  unfold lputE
  cases h : lookE es k with
  | none => simp
  | some d =>
    simp only
    have := spot_lt h
    split
    · rw [List.length_append, List.length_eraseIdx_of_lt this]; simp; omega
    · simp
def LPutRet (a : Option Addr) (L : List RV) (wd : Nat) (great : Bool) (es : List Ent) (k : List Int) (c : Int) (w : World) (e : Ending) (w' : World) : Prop :=
  ∃ a' c' L', e = .returned (.tuple #[.slice a' L'.length c', .bool (putB great es k c)]) ∧ RE w' a' wd (lputE great es k c) L' ∧ Below w.heap.size w w' ∧ (a' = a ∨ ∀ p, a' = some p → w.heap.size ≤ p.block) ∧ ∀ x ∈ L', x ∈ L ∨ ∀ p, x.1 = some p → w.heap.size ≤ p.block
theorem ret_lput {a : Option Addr} {n c : Nat} {x y : Bool} (hx : x = y) : Ending.returned (.tuple #[.slice a n c, .bool x]) = .returned (.tuple #[.slice a n c, .bool y]) := by rw [hx]
set_option maxRecDepth 100000 in
set_option maxHeartbeats 4000000 in
theorem lput_calls {w : World} {a : Option Addr} {wd : Nat} {es : List Ent} {L : List RV} (cap : Nat) (great : Bool) (h : RE w a wd es L) (ad : Addr) (kc : Nat) (key : List Int) (cost : Int) (hk : Row w (some ad) key) (hkl : key.length = wd) (hkr : InRange key) (hwd : wd ≤ 100) (hL : L.length ≤ 900) :
    Calls Try.prog 27 #[.slice a L.length cap, .bool great, .slice (some ad) key.length kc, .int .i64 cost] w (LPutRet a L wd great es key cost w) := by
  obtain ⟨i1, hi', hz0', hz1', hz2'⟩ := info_parts info2
  have I' := Lib.hid hi'
  have Z0' := Lib.hid hz0'
  have Z1' := Lib.hid hz1'
  have Z2' := Lib.hid hz2'
  obtain ⟨i0, hi, hz0, hz1, hz2⟩ := info_parts info23
  have I := Lib.hid hi
  have Z0 := Lib.hid hz0
  have Z1 := Lib.hid hz1
  have Z2 := Lib.hid hz2
  clear hi hz0 hz1 hz2 hi' hz0' hz1' hz2'
  have HR := Lib.hid h
  have HK := Lib.hid hk
  have HKL := Lib.hid hkl
  have OK2 := Lib.hid (h.ok.lput great hkl hkr cost)
  have NL : Hid (∀ x ∈ L, ∀ p, x.1 = some p → p.block < w.heap.size) := Lib.hid (fun x hx p hp => by
    have h1 : x.2.1 ∈ L.map (·.2.1) := List.mem_map_of_mem hx
    rw [h.cont] at h1
    obtain ⟨e, _, e2⟩ := List.mem_map.1 h1
    exact (h.rr.2 x hx).1.lt (by rw [← e2]; simp [rowE]) p hp)
  have cp := place_calls cap h (some ad) kc key hk hkl hwd (by omega)
  rw [hkl] at cp ⊢
  cases hlk : lookE es key with
  | none =>
    have PB : Hid (putB great es key cost = true) := Lib.hid (by unfold putB; rw [hlk])
    have LP : Hid (lputE great es key cost = es ++ [(key, cost)]) := Lib.hid (by unfold lputE; rw [hlk])
    have e1 : placeE es key = -1 := by unfold placeE; rw [hlk]; rfl
    have KCF : Hid (∀ K, skipE L (-1) L.length = K → K.map (·.2.1) = es.map rowE) := Lib.hid (fun K hK => by rw [skip_none] at hK; rw [← hK]; exact HR.out.cont)
    rw [e1] at cp
    clear e1 hlk h hk hkl hkr
    go_enter Try.func27, Try.ntmps27
    go_wp2_with fail
    refine cp.mono ?_
    rintro e X0 ⟨rfl, q0, hq0⟩
    have BW : Hid (Below w.heap.size w X0) := Lib.hid (by rw [hq0]; exact below_drewN (Below.refl _ _) q0)
    clear cp hq0
    obtain ⟨E, hE⟩ : ∃ E, X0.heap.size = E := ⟨_, rfl⟩
    have HE := Lib.hid hE
    have T0 : Hid (UL E (X0.alloc (.cells #[] 40)) (.slice (some ⟨X0.heap.size, 0, none⟩) 0 0) []) := Lib.hid (UL.nil E X0 (Nat.le_of_eq hE.symm))
    have B0 : Hid (Below E X0 (X0.alloc (.cells #[] 40))) := Lib.hid ((Below.refl _ _).alloc (Nat.le_of_eq hE.symm) _)
    have HX0 := Lib.hid (HR.out.below BW.out)
    have KX0 := Lib.hid (HK.out.below BW.out)
    clear hE
    go_wp2_with fail
    rw [HE.out] at T0 ⊢
    generalize World.alloc X0 _ = X1 at *
    go_loopw [37, 11] (fun s v wr => ∃ (j : Nat) (u : Value), j ≤ L.length ∧ s = .int .i64 j ∧ u = v ∧ Hid (UL E wr u (skipE L (-1) j)) ∧ Hid (Below E X0 wr)) (fun s _ _ => L.length - (intOf s).toNat)
    case atStart => exact ⟨0, _, Nat.zero_le _, rfl, rfl, T0, B0⟩
    case round =>
      obtain ⟨j, u, hj, rfl, rfl, HU, HL⟩ := hrel
      obtain ⟨X, rfl⟩ : ∃ x, x = wr := ⟨wr, rfl⟩
      have hEX : E ≤ X.heap.size := by have := HL.out.size; rw [HE.out] at this; exact this
      have hkl9 := skip_len L (-1) j
      by_cases hlt : j < L.length
      · obtain ⟨b, off, hla, hbl, hcell, hrow, hcp⟩ := (HX0.out.rr.belowB HE.out HL.out).at hlt
        have SS := Lib.hid (skip_succ L (-1) j)
        cases hla
        by_cases hji : (j : Int) = (-1)
        · have SK : Hid (skipE L (-1) (j + 1) = skipE L (-1) j) := Lib.hid (by rw [SS.out, if_pos hji]; simp)
          have tj : ((j : Int) != (-1)) = false := by rw [hji]; simp
          have U2 : Hid (UL E X u (skipE L (-1) (j + 1))) := Lib.hid (by rw [SK.out]; exact HU.out)
          clear hji
          go_wp2_with fail
          go_roundw
          case rel => exact ⟨j + 1, u, by omega, by go_num, rfl, U2, HL⟩
          case measure => simp [intOf]; omega
        · have SK : Hid (skipE L (-1) (j + 1) = skipE L (-1) j ++ [atV L j]) := Lib.hid (by rw [SS.out, if_neg hji])
          have tj : ((j : Int) != (-1)) = true := by rw [bne_iff_ne]; exact hji
          have RX := Lib.hid hrow
          have CX := Lib.hid hcp
          have FX : Hid (∀ p, (atV L j).1 = some p → p.block < X.heap.size ∧ u.ownBlock ≠ some p.block) := Lib.hid (fun p hp => by
            have h1 := NL.out _ (atV_mem hlt) p hp
            have h2 := BW.out.size
            rw [HE.out] at h2
            exact ⟨by omega, fun e => by have := (HU.out.own.lt _ e).1; omega⟩)
          clear hji hrow hcp
          generalize atV L j = x at *
          obtain ⟨xa, xz, xc⟩ := x
          simp only at hcell RX CX FX
          generalize skipE L (-1) j = K0 at *
          go_wp2_with (first | (at_builtin; refine wpList_append_own_at _ rfl _ _ 22 rfl E 40 i0 (.slice none 0 0) 1 24 Try.underlying22 I.out Z0.out Z1.out Z2.out rfl (by decide) _ _ _ rfl (HU.out.own.alloc _) ⟨X.heap.size, 0, none⟩ 1 1 [.slice xa xz.length xc] rfl rfl ?la1 ?la2 ?la3 ?la4 ?la5 ?_))
          case la1 => exact cell_one_new X _ _
          case la2 => intro u hu; simp at hu; subst hu; rfl
          case la3 => unfold maxLen; omega
          case la4 => omega
          case la5 => simp; omega
          intro v1 w7 hown hgrow _ hat
          have U7 := Lib.hid (HU.out.push (x := (xa, xz, xc)) RX.out CX.out FX.out hown hgrow (by simpa using hat))
          have B7 := Lib.hid (HU.out.belowW HL.out hEX hgrow)
          rw [← SK.out] at U7
          clear hown hgrow hat hcell
          go_wp2_with fail
          go_roundw
          case rel => exact ⟨j + 1, _, by omega, by go_num, rfl, U7, B7⟩
          case measure => simp [intOf]; omega
      · have tl : decide (j < L.length) = false := decide_eq_false hlt
        obtain rfl : j = L.length := by omega
        have HUX : Hid (UL E X u (skipE L (-1) L.length)) := HU
        have RB : Hid (∀ x ∈ skipE L (-1) L.length, ∀ p, x.1 = some p → p.block < E) := Lib.hid (fun x hx p hp => by
          obtain ⟨t, ht, rfl⟩ := List.mem_map.1 hx
          have h1 : t < L.length := List.mem_range.1 (List.mem_filter.1 ht).1
          have h2 := NL.out _ (atV_mem h1) p hp
          have h3 := BW.out.size
          rw [HE.out] at h3
          omega)
        have KL : Hid (∀ x ∈ skipE L (-1) L.length, x ∈ L) := Lib.hid (fun x hx => by
          obtain ⟨t, ht, rfl⟩ := List.mem_map.1 hx
          exact atV_mem (List.mem_range.1 (List.mem_filter.1 ht).1))
        obtain ⟨K, hK⟩ : ∃ K, skipE L (-1) L.length = K := ⟨_, rfl⟩
        rw [hK] at HUX RB hkl9 KL
        have KC := KCF.out K hK
        have KC := Lib.hid KC
        have hKl : K.length ≤ 1000 := by omega
        have KX := Lib.hid (KX0.out.belowB HE.out HL.out)
        have OE : Hid ((X.alloc (.cells #[] 2)).ownsRow E 2 1 (.slice (some ⟨X.heap.size, 0, none⟩) 0 0) 0 []) := Lib.hid (World.ownsRow_lit (base := E) (e := 2) (size := 1) X #[] 0 hEX (by decide) rfl)
        have LX2 : Hid (Below E X0 (X.alloc (.cells #[] 2))) := Lib.hid (HL.out.alloc hEX _)
        have UX2 := Lib.hid (HUX.out.below ((Below.refl X.heap.size X).alloc (Nat.le_refl _) (.cells #[] 2)))
        have KX2 := Lib.hid (KX.out.alloc (.cells #[] 2))
        have NE0 : Hid (∀ q, u.ownBlock = some q → (Value.slice (some ⟨X.heap.size, 0, none⟩) 0 0).ownBlock ≠ some q) := Lib.hid (fun q hq e => by
          simp only [Value.ownBlock, Option.some.injEq] at e
          have := (HUX.out.own.lt q hq).2; omega)
        clear hK HU HUX KX KCF
        have NW : Hid (∀ (jj : Nat) (v : Value), (key.map (Value.int .i64))[jj]? = some v → (X.alloc (.cells #[] 2)).cell? (ad.add jj) = some v) := Lib.hid (by
          by_cases h0 : 0 < key.length
          · obtain ⟨ad2, e2, h2⟩ := row_cells KX2.out h0
            cases e2
            exact h2
          · have : key = [] := List.eq_nil_of_length_eq_zero (by omega)
            rw [this]; intro jj v hv; simp at hv)
        go_wp2_with (first | (at_builtin; refine wpList_append_own_at _ rfl _ _ 40 rfl E 2 i1 (.int .i64 0) 1 8 Try.underlying40 I'.out Z0'.out Z1'.out Z2'.out rfl (by decide) _ _ _ rfl OE.out ad wd kc (key.map (Value.int .i64)) rfl ?ha0 NW.out ?ha2 ?ha3 ?ha4 ?ha5 ?_))
        case ha0 => simp [HKL.out]
        case ha2 => intro u hu; obtain ⟨z, _, rfl⟩ := List.mem_map.1 hu; rfl
        case ha3 => unfold maxLen; omega
        case ha4 => omega
        case ha5 => first | omega | (simp; omega)
        intro v9 Y hown9 hgrow9 _ hat9
        have O9 : Hid (Y.ownsRow E 2 1 v9 wd (key.map (Value.int .i64))) := Lib.hid (by have := hown9; simpa using this)
        have kXY : Keeps (fun b => b = X.heap.size) (X.alloc (.cells #[] 2)) Y := Keeps.of_grown hgrow9 (fun b hb => by simp only [Value.ownBlock, Option.some.injEq] at hb; exact hb.symm)
        have UY : Hid (UL E Y u K) := Lib.hid (UX2.out.keeps kXY (fun b hb e => by have := NE0.out b hb; simp only [Value.ownBlock] at this; exact this (by rw [e])) (fun x hx p hp e => by have := RB.out x hx p hp; omega))
        have LY : Hid (Below E X0 Y) := Lib.hid (LX2.out.grown hgrow9 (by simp; omega) (fun k hk => (OE.out.lt k hk).1))
        have NE : Hid (∀ q, u.ownBlock = some q → v9.ownBlock ≠ some q) := Lib.hid (fun q hq e => by
          have h1 := (UX2.out.own.lt q hq).2
          rcases hat9 with h2 | h2
          · rw [h2] at e; exact NE0.out q hq e
          · rw [h2] at e; simp at e h1; omega)
        clear hown9 hgrow9 hat9 kXY UX2 LX2 OE KX2 NW NE0
        obtain ⟨va, vc, rfl⟩ := row_form O9.out
        have hEY : E ≤ Y.heap.size := by have := LY.out.size; rw [HE.out] at this; exact this
        go_wp2_with (first | (at_builtin; refine wpList_append_own_at _ rfl _ _ 40 rfl E 2 i1 (.int .i64 0) 1 8 Try.underlying40 I'.out Z0'.out Z1'.out Z2'.out rfl (by decide) _ _ _ rfl (O9.out.alloc _) ⟨Y.heap.size, 0, none⟩ 1 1 [.int .i64 cost] rfl rfl ?ka1 ?ka2 ?ka3 ?ka4 ?ka5 ?_))
        case ka1 => exact cell_one_new Y _ _
        case ka2 => intro u hu; simp at hu; subst hu; rfl
        case ka3 => unfold maxLen; omega
        case ka4 => omega
        case ka5 => simp; omega
        intro v1 Y1 hown hgrow _ hat
        have O10 : Hid (Y1.ownsRow E 2 1 v1 (rowE (key, cost)).length ((rowE (key, cost)).map (Value.int .i64))) := Lib.hid (by
          have e9 : (rowE (key, cost)).length = wd + 1 := by simp [rowE, HKL.out]
          rw [e9]
          have := hown
          simpa [rowE] using this)
        have hne1 : u.ownBlock ≠ v1.ownBlock ∨ u.ownBlock = none := by
          cases hu : u.ownBlock with
          | none => exact .inr rfl
          | some q =>
            left
            intro e
            have h1 := (UY.out.own.lt q hu).2
            rcases hat with h2 | h2
            · rw [h2] at e; exact NE.out q hu e.symm
            · rw [h2] at e; simp at e; omega
        have kY : Keeps (fun b => (Value.slice va wd vc).ownBlock = some b) Y Y1 := ((Keeps.refl _ Y).alloc _).trans (Keeps.of_grown hgrow (fun b hb => hb))
        have UY1 : Hid (UL E Y1 u K) := Lib.hid (UY.out.keeps kY (fun b hb e => NE.out b hb e) (fun x hx p hp e => by
          have h1 := (O9.out.lt _ e).1
          have h2 := RB.out x hx p hp
          omega))
        have LY1 : Hid (Below E X0 Y1) := Lib.hid ((LY.out.alloc hEY _).grown hgrow (by simp; omega) (fun k hk => (O9.out.lt k hk).1))
        obtain ⟨ra, rc, hv1, hrow1, hcp1, hfr1⟩ := fresh_of_owns O10.out
        subst hv1
        have hEY1 : E ≤ Y1.heap.size := Nat.le_trans hEY kY.size
        have F1 : Hid (∀ p, ra = some p → p.block < Y1.heap.size ∧ u.ownBlock ≠ some p.block) := Lib.hid (fun p hp => ⟨(hfr1 p hp).2, fun e => by
          rcases hne1 with h1 | h1
          · exact h1 (by rw [e, hp]; rfl)
          · rw [h1] at e; cases e⟩)
        have R1 := Lib.hid hrow1
        have FB : Hid (∀ p, ra = some p → E ≤ p.block) := Lib.hid (fun p hp => (hfr1 p hp).1)
        have C1 := Lib.hid hcp1
        have e9 : (rowE (key, cost)).length = wd + 1 := by simp [rowE, HKL.out]
        have E9 := Lib.hid e9
        have hlv : (Value.slice ra (rowE (key, cost)).length rc) = .slice ra (wd + 1) rc := by rw [e9]
        rw [e9]
        clear hown hgrow hat kY hrow1 hcp1 hfr1 hne1 UY O9 LY e9 hlv
        go_wp2_with (first | (at_builtin; refine wpList_append_own_at _ rfl _ _ 22 rfl E 40 i0 (.slice none 0 0) 1 24 Try.underlying22 I.out Z0.out Z1.out Z2.out rfl (by decide) _ _ _ rfl (UY1.out.own.alloc _) ⟨Y1.heap.size, 0, none⟩ 1 1 [.slice ra (wd + 1) rc] rfl rfl ?ja1 ?ja2 ?ja3 ?ja4 ?ja5 ?_))
        case ja1 => exact cell_one_new Y1 _ _
        case ja2 => first | rfl | (intro u hu; simp at hu; subst hu; rfl)
        case ja3 => unfold maxLen; omega
        case ja4 => omega
        case ja5 => first | omega | (simp; omega)
        intro v2 Y2 hown hgrow _ hat
        have U2 := Lib.hid (UY1.out.push (x := (ra, rowE (key, cost), rc)) R1.out C1.out F1.out (by simp only [encV, E9.out]; exact hown) hgrow (by simpa using hat))
        have B2 := Lib.hid (UY1.out.belowW LY1.out hEY1 hgrow)
        clear hown hgrow hat
        obtain ⟨fa, fc, hv2, hRR⟩ := U2.out.rrow
        subst hv2
        have HRR := Lib.hid hRR
        have LK : Hid ((K ++ [(ra, rowE (key, cost), rc)]).length = K.length + 1) := Lib.hid (by simp)
        clear hRR
        go_wp2_with fail
        go_ret2
        refine ⟨fa, fc, K ++ [(ra, rowE (key, cost), rc)], ret_lput PB.out.symm, ⟨HRR.out, ?_, OK2.out⟩, BW.out.trans (B2.out.mono (by have := BW.out.size; rw [HE.out] at this; exact this)), .inr (fun p hp => ?_), fun x hx => ?_⟩
        · rw [LP.out, List.map_append, List.map_append, KC.out]
          rfl
        · have h1 := (U2.out.own.lt p.block (by rw [hp]; rfl)).1
          have h2 := BW.out.size
          rw [HE.out] at h2
          omega
        · rcases List.mem_append.1 hx with hx | hx
          · exact .inl (KL.out x hx)
          · obtain rfl : x = (ra, rowE (key, cost), rc) := by simpa using hx
            refine .inr (fun p hp => ?_)
            have h1 := FB.out p hp
            have h2 := BW.out.size
            rw [HE.out] at h2
            omega
  | some d =>
    obtain ⟨z0, hz0⟩ : ∃ i, spotE es key = i := ⟨_, rfl⟩
    have hsl := spot_lt hlk
    have hat := spot_at hlk
    rw [hz0] at hsl hat
    have hsL : z0 < L.length := by rw [h.len]; exact hsl
    have e1 : placeE es key = (z0 : Int) := by unfold placeE; rw [hlk, hz0]; rfl
    rw [e1] at cp
    have HAT := Lib.hid hat
    cases hbt : betterB great cost d
    · have PB : Hid (putB great es key cost = false) := Lib.hid (by unfold putB; rw [hlk]; exact hbt)
      have LP : Hid (lputE great es key cost = es) := Lib.hid (by unfold lputE; rw [hlk]; simp [hbt])
      have cb := better_law great cost d
      rw [hbt] at cb
      clear e1 hlk h hk hkl hkr hz0 hsl hat hbt
      go_enter Try.func27, Try.ntmps27
      go_wp2_with fail
      refine cp.mono ?_
      rintro e X0 ⟨rfl, q0, hq0⟩
      have BW : Hid (Below w.heap.size w X0) := Lib.hid (by rw [hq0]; exact below_drewN (Below.refl _ _) q0)
      have HX := HR.out.below BW.out
      obtain ⟨b, off, hla, _, hcell, hrow, _⟩ := HX.rr.at hsL
      obtain ⟨e9, he9, hre, hel9, _⟩ := HX.at hsL
      rw [HAT.out] at he9
      cases he9
      rw [hre] at hcell hrow
      have hr9 : (rowE (key, d)).length = wd + 1 := by simp [rowE, HKL.out]
      obtain ⟨rb, ro, hra, _, hrc⟩ := hrow.at (k := wd) (by omega)
      have hcd : (rowE (key, d))[wd]?.getD 0 = d := by simp [rowE, ← HKL.out]
      rw [hcd] at hrc
      rw [hr9, hra] at hcell
      cases hla
      have q7 : (wd : Int) < (wd : Int) + 1 := by omega
      have HX2 := Lib.hid HX
      clear cp hq0 HX hrow hre hr9 hcd hra
      go_wp2_with fail
      refine (cb X0).mono ?_
      rintro e w' ⟨rfl, rfl⟩
      go_wp2_with fail
      go_ret2
      exact ⟨_, _, L, ret_lput PB.out.symm, by rw [LP.out]; exact HX2.out, BW.out, .inl rfl, fun x hx => .inl hx⟩
    · have PB : Hid (putB great es key cost = true) := Lib.hid (by unfold putB; rw [hlk]; exact hbt)
      have LP : Hid (lputE great es key cost = es.eraseIdx z0 ++ [(key, cost)]) := Lib.hid (by unfold lputE; rw [hlk, hz0]; simp [hbt])
      have KCF : Hid (∀ K, skipE L (z0 : Int) L.length = K → K.map (·.2.1) = (es.eraseIdx z0).map rowE) := Lib.hid (fun K hK => by rw [skip_at] at hK; rw [← hK]; exact map_erase HR.out.cont z0)
      have cb := better_law great cost d
      rw [hbt] at cb
      clear e1 hlk h hk hkl hkr hz0 hsl hat hbt
      go_enter Try.func27, Try.ntmps27
      go_wp2_with fail
      refine cp.mono ?_
      rintro e X0 ⟨rfl, q0, hq0⟩
      have BW : Hid (Below w.heap.size w X0) := Lib.hid (by rw [hq0]; exact below_drewN (Below.refl _ _) q0)
      have HX := HR.out.below BW.out
      obtain ⟨b, off, hla, _, hcell, hrow, _⟩ := HX.rr.at hsL
      obtain ⟨e9, he9, hre, hel9, _⟩ := HX.at hsL
      rw [HAT.out] at he9
      cases he9
      rw [hre] at hcell hrow
      have hr9 : (rowE (key, d)).length = wd + 1 := by simp [rowE, HKL.out]
      obtain ⟨rb, ro, hra, _, hrc⟩ := hrow.at (k := wd) (by omega)
      have hcd : (rowE (key, d))[wd]?.getD 0 = d := by simp [rowE, ← HKL.out]
      rw [hcd] at hrc
      rw [hr9, hra] at hcell
      cases hla
      have q7 : (wd : Int) < (wd : Int) + 1 := by omega
      clear cp hq0 HX hrow hre hr9 hcd hra
      go_wp2_with fail
      refine (cb X0).mono ?_
      rintro e w' ⟨rfl, rfl⟩
      clear hcell hrc
      obtain ⟨E, hE⟩ : ∃ E, X0.heap.size = E := ⟨_, rfl⟩
      have HE := Lib.hid hE
      have T0 : Hid (UL E (X0.alloc (.cells #[] 40)) (.slice (some ⟨X0.heap.size, 0, none⟩) 0 0) []) := Lib.hid (UL.nil E X0 (Nat.le_of_eq hE.symm))
      have B0 : Hid (Below E X0 (X0.alloc (.cells #[] 40))) := Lib.hid ((Below.refl _ _).alloc (Nat.le_of_eq hE.symm) _)
      have HX0 := Lib.hid (HR.out.below BW.out)
      have KX0 := Lib.hid (HK.out.below BW.out)
      clear hE
      go_wp2_with fail
      rw [HE.out] at T0 ⊢
      generalize World.alloc X0 _ = X1 at *
      go_loopw [37, 11] (fun s v wr => ∃ (j : Nat) (u : Value), j ≤ L.length ∧ s = .int .i64 j ∧ u = v ∧ Hid (UL E wr u (skipE L (z0 : Int) j)) ∧ Hid (Below E X0 wr)) (fun s _ _ => L.length - (intOf s).toNat)
      case atStart => exact ⟨0, _, Nat.zero_le _, rfl, rfl, T0, B0⟩
      case round =>
        obtain ⟨j, u, hj, rfl, rfl, HU, HL⟩ := hrel
        obtain ⟨X, rfl⟩ : ∃ x, x = wr := ⟨wr, rfl⟩
        have hEX : E ≤ X.heap.size := by have := HL.out.size; rw [HE.out] at this; exact this
        have hkl9 := skip_len L (z0 : Int) j
        by_cases hlt : j < L.length
        · obtain ⟨b, off, hla, hbl, hcell, hrow, hcp⟩ := (HX0.out.rr.belowB HE.out HL.out).at hlt
          have SS := Lib.hid (skip_succ L (z0 : Int) j)
          cases hla
          by_cases hji : (j : Int) = (z0 : Int)
          · have SK : Hid (skipE L (z0 : Int) (j + 1) = skipE L (z0 : Int) j) := Lib.hid (by rw [SS.out, if_pos hji]; simp)
            have tj : ((j : Int) != (z0 : Int)) = false := by rw [hji]; simp
            have U2 : Hid (UL E X u (skipE L (z0 : Int) (j + 1))) := Lib.hid (by rw [SK.out]; exact HU.out)
            clear hji
            go_wp2_with fail
            go_roundw
            case rel => exact ⟨j + 1, u, by omega, by go_num, rfl, U2, HL⟩
            case measure => simp [intOf]; omega
          · have SK : Hid (skipE L (z0 : Int) (j + 1) = skipE L (z0 : Int) j ++ [atV L j]) := Lib.hid (by rw [SS.out, if_neg hji])
            have tj : ((j : Int) != (z0 : Int)) = true := by rw [bne_iff_ne]; exact hji
            have RX := Lib.hid hrow
            have CX := Lib.hid hcp
            have FX : Hid (∀ p, (atV L j).1 = some p → p.block < X.heap.size ∧ u.ownBlock ≠ some p.block) := Lib.hid (fun p hp => by
              have h1 := NL.out _ (atV_mem hlt) p hp
              have h2 := BW.out.size
              rw [HE.out] at h2
              exact ⟨by omega, fun e => by have := (HU.out.own.lt _ e).1; omega⟩)
            clear hji hrow hcp
            generalize atV L j = x at *
            obtain ⟨xa, xz, xc⟩ := x
            simp only at hcell RX CX FX
            generalize skipE L (z0 : Int) j = K0 at *
            go_wp2_with (first | (at_builtin; refine wpList_append_own_at _ rfl _ _ 22 rfl E 40 i0 (.slice none 0 0) 1 24 Try.underlying22 I.out Z0.out Z1.out Z2.out rfl (by decide) _ _ _ rfl (HU.out.own.alloc _) ⟨X.heap.size, 0, none⟩ 1 1 [.slice xa xz.length xc] rfl rfl ?lb1 ?lb2 ?lb3 ?lb4 ?lb5 ?_))
            case lb1 => exact cell_one_new X _ _
            case lb2 => intro u hu; simp at hu; subst hu; rfl
            case lb3 => unfold maxLen; omega
            case lb4 => omega
            case lb5 => simp; omega
            intro v1 w7 hown hgrow _ hat
            have U7 := Lib.hid (HU.out.push (x := (xa, xz, xc)) RX.out CX.out FX.out hown hgrow (by simpa using hat))
            have B7 := Lib.hid (HU.out.belowW HL.out hEX hgrow)
            rw [← SK.out] at U7
            clear hown hgrow hat hcell
            go_wp2_with fail
            go_roundw
            case rel => exact ⟨j + 1, _, by omega, by go_num, rfl, U7, B7⟩
            case measure => simp [intOf]; omega
        · have tl : decide (j < L.length) = false := decide_eq_false hlt
          obtain rfl : j = L.length := by omega
          have HUX : Hid (UL E X u (skipE L (z0 : Int) L.length)) := HU
          have RB : Hid (∀ x ∈ skipE L (z0 : Int) L.length, ∀ p, x.1 = some p → p.block < E) := Lib.hid (fun x hx p hp => by
            obtain ⟨t, ht, rfl⟩ := List.mem_map.1 hx
            have h1 : t < L.length := List.mem_range.1 (List.mem_filter.1 ht).1
            have h2 := NL.out _ (atV_mem h1) p hp
            have h3 := BW.out.size
            rw [HE.out] at h3
            omega)
          have KL : Hid (∀ x ∈ skipE L (z0 : Int) L.length, x ∈ L) := Lib.hid (fun x hx => by
            obtain ⟨t, ht, rfl⟩ := List.mem_map.1 hx
            exact atV_mem (List.mem_range.1 (List.mem_filter.1 ht).1))
          obtain ⟨K, hK⟩ : ∃ K, skipE L (z0 : Int) L.length = K := ⟨_, rfl⟩
          rw [hK] at HUX RB hkl9 KL
          have KC := KCF.out K hK
          have KC := Lib.hid KC
          have hKl : K.length ≤ 1000 := by omega
          have KX := Lib.hid (KX0.out.belowB HE.out HL.out)
          have OE : Hid ((X.alloc (.cells #[] 2)).ownsRow E 2 1 (.slice (some ⟨X.heap.size, 0, none⟩) 0 0) 0 []) := Lib.hid (World.ownsRow_lit (base := E) (e := 2) (size := 1) X #[] 0 hEX (by decide) rfl)
          have LX2 : Hid (Below E X0 (X.alloc (.cells #[] 2))) := Lib.hid (HL.out.alloc hEX _)
          have UX2 := Lib.hid (HUX.out.below ((Below.refl X.heap.size X).alloc (Nat.le_refl _) (.cells #[] 2)))
          have KX2 := Lib.hid (KX.out.alloc (.cells #[] 2))
          have NE0 : Hid (∀ q, u.ownBlock = some q → (Value.slice (some ⟨X.heap.size, 0, none⟩) 0 0).ownBlock ≠ some q) := Lib.hid (fun q hq e => by
            simp only [Value.ownBlock, Option.some.injEq] at e
            have := (HUX.out.own.lt q hq).2; omega)
          clear hK HU HUX KX KCF
          have NW : Hid (∀ (jj : Nat) (v : Value), (key.map (Value.int .i64))[jj]? = some v → (X.alloc (.cells #[] 2)).cell? (ad.add jj) = some v) := Lib.hid (by
            by_cases h0 : 0 < key.length
            · obtain ⟨ad2, e2, h2⟩ := row_cells KX2.out h0
              cases e2
              exact h2
            · have : key = [] := List.eq_nil_of_length_eq_zero (by omega)
              rw [this]; intro jj v hv; simp at hv)
          go_wp2_with (first | (at_builtin; refine wpList_append_own_at _ rfl _ _ 40 rfl E 2 i1 (.int .i64 0) 1 8 Try.underlying40 I'.out Z0'.out Z1'.out Z2'.out rfl (by decide) _ _ _ rfl OE.out ad wd kc (key.map (Value.int .i64)) rfl ?hb0 NW.out ?hb2 ?hb3 ?hb4 ?hb5 ?_))
          case hb0 => simp [HKL.out]
          case hb2 => intro u hu; obtain ⟨z, _, rfl⟩ := List.mem_map.1 hu; rfl
          case hb3 => unfold maxLen; omega
          case hb4 => omega
          case hb5 => first | omega | (simp; omega)
          intro v9 Y hown9 hgrow9 _ hat9
          have O9 : Hid (Y.ownsRow E 2 1 v9 wd (key.map (Value.int .i64))) := Lib.hid (by have := hown9; simpa using this)
          have kXY : Keeps (fun b => b = X.heap.size) (X.alloc (.cells #[] 2)) Y := Keeps.of_grown hgrow9 (fun b hb => by simp only [Value.ownBlock, Option.some.injEq] at hb; exact hb.symm)
          have UY : Hid (UL E Y u K) := Lib.hid (UX2.out.keeps kXY (fun b hb e => by have := NE0.out b hb; simp only [Value.ownBlock] at this; exact this (by rw [e])) (fun x hx p hp e => by have := RB.out x hx p hp; omega))
          have LY : Hid (Below E X0 Y) := Lib.hid (LX2.out.grown hgrow9 (by simp; omega) (fun k hk => (OE.out.lt k hk).1))
          have NE : Hid (∀ q, u.ownBlock = some q → v9.ownBlock ≠ some q) := Lib.hid (fun q hq e => by
            have h1 := (UX2.out.own.lt q hq).2
            rcases hat9 with h2 | h2
            · rw [h2] at e; exact NE0.out q hq e
            · rw [h2] at e; simp at e h1; omega)
          clear hown9 hgrow9 hat9 kXY UX2 LX2 OE KX2 NW NE0
          obtain ⟨va, vc, rfl⟩ := row_form O9.out
          have hEY : E ≤ Y.heap.size := by have := LY.out.size; rw [HE.out] at this; exact this
          go_wp2_with (first | (at_builtin; refine wpList_append_own_at _ rfl _ _ 40 rfl E 2 i1 (.int .i64 0) 1 8 Try.underlying40 I'.out Z0'.out Z1'.out Z2'.out rfl (by decide) _ _ _ rfl (O9.out.alloc _) ⟨Y.heap.size, 0, none⟩ 1 1 [.int .i64 cost] rfl rfl ?kb1 ?kb2 ?kb3 ?kb4 ?kb5 ?_))
          case kb1 => exact cell_one_new Y _ _
          case kb2 => intro u hu; simp at hu; subst hu; rfl
          case kb3 => unfold maxLen; omega
          case kb4 => omega
          case kb5 => simp; omega
          intro v1 Y1 hown hgrow _ hat
          have O10 : Hid (Y1.ownsRow E 2 1 v1 (rowE (key, cost)).length ((rowE (key, cost)).map (Value.int .i64))) := Lib.hid (by
            have e9 : (rowE (key, cost)).length = wd + 1 := by simp [rowE, HKL.out]
            rw [e9]
            have := hown
            simpa [rowE] using this)
          have hne1 : u.ownBlock ≠ v1.ownBlock ∨ u.ownBlock = none := by
            cases hu : u.ownBlock with
            | none => exact .inr rfl
            | some q =>
              left
              intro e
              have h1 := (UY.out.own.lt q hu).2
              rcases hat with h2 | h2
              · rw [h2] at e; exact NE.out q hu e.symm
              · rw [h2] at e; simp at e; omega
          have kY : Keeps (fun b => (Value.slice va wd vc).ownBlock = some b) Y Y1 := ((Keeps.refl _ Y).alloc _).trans (Keeps.of_grown hgrow (fun b hb => hb))
          have UY1 : Hid (UL E Y1 u K) := Lib.hid (UY.out.keeps kY (fun b hb e => NE.out b hb e) (fun x hx p hp e => by
            have h1 := (O9.out.lt _ e).1
            have h2 := RB.out x hx p hp
            omega))
          have LY1 : Hid (Below E X0 Y1) := Lib.hid ((LY.out.alloc hEY _).grown hgrow (by simp; omega) (fun k hk => (O9.out.lt k hk).1))
          obtain ⟨ra, rc, hv1, hrow1, hcp1, hfr1⟩ := fresh_of_owns O10.out
          subst hv1
          have hEY1 : E ≤ Y1.heap.size := Nat.le_trans hEY kY.size
          have F1 : Hid (∀ p, ra = some p → p.block < Y1.heap.size ∧ u.ownBlock ≠ some p.block) := Lib.hid (fun p hp => ⟨(hfr1 p hp).2, fun e => by
            rcases hne1 with h1 | h1
            · exact h1 (by rw [e, hp]; rfl)
            · rw [h1] at e; cases e⟩)
          have R1 := Lib.hid hrow1
          have FB : Hid (∀ p, ra = some p → E ≤ p.block) := Lib.hid (fun p hp => (hfr1 p hp).1)
          have C1 := Lib.hid hcp1
          have e9 : (rowE (key, cost)).length = wd + 1 := by simp [rowE, HKL.out]
          have E9 := Lib.hid e9
          have hlv : (Value.slice ra (rowE (key, cost)).length rc) = .slice ra (wd + 1) rc := by rw [e9]
          rw [e9]
          clear hown hgrow hat kY hrow1 hcp1 hfr1 hne1 UY O9 LY e9 hlv
          go_wp2_with (first | (at_builtin; refine wpList_append_own_at _ rfl _ _ 22 rfl E 40 i0 (.slice none 0 0) 1 24 Try.underlying22 I.out Z0.out Z1.out Z2.out rfl (by decide) _ _ _ rfl (UY1.out.own.alloc _) ⟨Y1.heap.size, 0, none⟩ 1 1 [.slice ra (wd + 1) rc] rfl rfl ?jb1 ?jb2 ?jb3 ?jb4 ?jb5 ?_))
          case jb1 => exact cell_one_new Y1 _ _
          case jb2 => first | rfl | (intro u hu; simp at hu; subst hu; rfl)
          case jb3 => unfold maxLen; omega
          case jb4 => omega
          case jb5 => first | omega | (simp; omega)
          intro v2 Y2 hown hgrow _ hat
          have U2 := Lib.hid (UY1.out.push (x := (ra, rowE (key, cost), rc)) R1.out C1.out F1.out (by simp only [encV, E9.out]; exact hown) hgrow (by simpa using hat))
          have B2 := Lib.hid (UY1.out.belowW LY1.out hEY1 hgrow)
          clear hown hgrow hat
          obtain ⟨fa, fc, hv2, hRR⟩ := U2.out.rrow
          subst hv2
          have HRR := Lib.hid hRR
          have LK : Hid ((K ++ [(ra, rowE (key, cost), rc)]).length = K.length + 1) := Lib.hid (by simp)
          clear hRR
          go_wp2_with fail
          go_ret2
          refine ⟨fa, fc, K ++ [(ra, rowE (key, cost), rc)], ret_lput PB.out.symm, ⟨HRR.out, ?_, OK2.out⟩, BW.out.trans (B2.out.mono (by have := BW.out.size; rw [HE.out] at this; exact this)), .inr (fun p hp => ?_), fun x hx => ?_⟩
          · rw [LP.out, List.map_append, List.map_append, KC.out]
            rfl
          · have h1 := (U2.out.own.lt p.block (by rw [hp]; rfl)).1
            have h2 := BW.out.size
            rw [HE.out] at h2
            omega
          · rcases List.mem_append.1 hx with hx | hx
            · exact .inl (KL.out x hx)
            · obtain rfl : x = (ra, rowE (key, cost), rc) := by simpa using hx
              refine .inr (fun p hp => ?_)
              have h1 := FB.out p hp
              have h2 := BW.out.size
              rw [HE.out] at h2
              omega

end Go.Proofs.Ytcecndjkfdaaaaa
