/- best's put and Put. -/
import Derived.Test.YtcecndjkfdaaaaaBs6
namespace Go.Proofs.Ytcecndjkfdaaaaa
open Go.RowKit Go.Maps
set_option linter.unusedVariables false
set_option linter.unusedSimpArgs false

theorem Bst.mono {N M : Nat → Prop} {w : World} {g wd : Nat} {great : Bool} {es : List Ent} (h : Bst N w g wd great es) (hNM : ∀ k, N k → M k) (hlt : ∀ k, M k → k < w.heap.size) : Bst M w g wd great es := by
  obtain ⟨L, tv, mv, h⟩ := h; exact ⟨L, tv, mv, h.mono hNM hlt⟩
theorem add_calls {N : Nat → Prop} {w : World} {g wd : Nat} {great : Bool} {es : List Ent} (h : Bst N w g wd great es) (ka : Option Addr) (kc : Nat) (key1 : List Int) (cost : Int) (hk : Row w ka key1) (hkl : key1.length = wd) (hkr : InRange key1) (hwd : wd ≤ 100) (hel : es.length ≤ 100000) (hlk : lookE es key1 = none) :
    Calls Try.prog 67 #[.pointer (some ⟨g, 0, none⟩), .string (keyText key1), .slice ka key1.length kc, .int .i64 cost] w (AddRet N g wd great es key1 cost w) := by
  obtain ⟨L, tv, mv, h⟩ := h
  rcases h.map with ⟨rfl, rfl⟩ | ⟨b, D, rfl, _⟩
  · obtain rfl : L = [] := List.eq_nil_of_length_eq_zero (by rw [h.len]; rfl)
    exact add_nil h ka kc key1 cost hk hkl hkr hwd hlk
  · exact add_some h ka kc key1 cost hk hkl hkr hwd hel hlk
def BPutRet (N : Nat → Prop) (g wd : Nat) (great : Bool) (es : List Ent) (k : List Int) (c : Int) (w : World) (e : Ending) (w' : World) : Prop :=
  ∃ i : Int, e = .returned (.tuple #[.int .i64 i, .bool (putB great es k c)]) ∧ (putB great es k c = true → i = (spotE (putE great es k c) k : Int)) ∧ Bst (NN N w.heap.size w'.heap.size) w' g wd great (putE great es k c) ∧ Keeps N w w'
theorem spot_new {es : List Ent} {k : List Int} (h : lookE es k = none) (c : Int) : spotE (es ++ [(k, c)]) k = es.length := by
  induction es with
  | nil => simp [spotE]
  | cons e es ih =>
    by_cases h2 : e.1 = k
    · simp [lookE, h2] at h
    · simp only [lookE, h2, if_false] at h
      simp [spotE, h2, ih h]
theorem spot_upd {es : List Ent} {k : List Int} {d : Int} (h : lookE es k = some d) (c : Int) : spotE (updE es k c) k = spotE es k := by
  induction es with
  | nil => simp [lookE] at h
  | cons e es ih =>
    unfold updE
    by_cases h2 : e.1 = k
    · rw [if_pos h2]; simp [spotE, h2]
    · simp only [lookE, h2, if_false] at h
      rw [if_neg h2]; simp [spotE, h2, ih h]
/-- What add leaves is what put is to leave. -/
theorem put_of_add {N : Nat → Prop} {w W w' : World} {g wd : Nat} {great : Bool} {es : List Ent} {k : List Int} {c : Int} (hb : Below w.heap.size w W) (hNlt : ∀ x, N x → x < w.heap.size) (hlk : lookE es k = none) (h : Bst (NN N W.heap.size w'.heap.size) w' g wd great (es ++ [(k, c)])) (hk : Keeps N W w') :
    BPutRet N g wd great es k c w (.returned (.tuple #[.int .i64 es.length, .bool true])) w' := by
  have e1 : putB great es k c = true := by unfold putB; rw [hlk]
  have e2 : putE great es k c = es ++ [(k, c)] := by unfold putE; rw [hlk]; exact upd_new hlk c
  refine ⟨es.length, by rw [e1], fun _ => by rw [e2, spot_new hlk], ?_, (Keeps.of_below hb).trans hk⟩
  rw [e2]
  refine h.mono (fun x hx => ?_) (fun x hx => ?_)
  · rcases hx with hx | hx
    · exact .inl hx
    · exact .inr ⟨Nat.le_trans hb.size hx.1, hx.2⟩
  · rcases hx with hx | hx
    · exact Nat.lt_of_lt_of_le (hNlt x hx) (Nat.le_trans hb.size hk.size)
    · exact hx.2
/-- Nothing was put. -/
theorem put_not {N : Nat → Prop} {w w' : World} {g wd : Nat} {great : Bool} {es : List Ent} {k : List Int} {c d : Int} (hlk : lookE es k = some d) (hbt : betterB great c d = false) (h : Bst N w g wd great es) (hb : Below w.heap.size w w') (i : Int) : BPutRet N g wd great es k c w (.returned (.tuple #[.int .i64 i, .bool false])) w' := by
  have e1 : putB great es k c = false := by unfold putB; rw [hlk]; exact hbt
  have e2 : putE great es k c = es := by unfold putE; rw [hlk]; simp [hbt]
  refine ⟨i, by rw [e1], fun h => (by rw [e1] at h; cases h), ?_, Keeps.of_below hb⟩
  rw [e2]
  refine (h.below hb).mono (fun x hx => .inl hx) (fun x hx => ?_)
  rcases hx with hx | hx
  · exact Nat.lt_of_lt_of_le (h.lt x hx) hb.size
  · exact hx.2
theorem put_yes {N : Nat → Prop} {w W : World} {g wd r : Nat} {great : Bool} {es : List Ent} {L : List RV} {tv mv : Value} {k : List Int} {c d : Int} (hlk : lookE es k = some d) (hbt : betterB great c d = true) (hNlt : ∀ x, N x → x < w.heap.size) (hb : Below w.heap.size w W) (hr : N r) (h : BS N (W.setCell ⟨r, wd, none⟩ (.int .i64 c)) g wd great (updE es k c) L tv mv) : BPutRet N g wd great es k c w (.returned (.tuple #[.int .i64 (spotE es k), .bool true])) (W.setCell ⟨r, wd, none⟩ (.int .i64 c)) := by
  have e1 : putB great es k c = true := by unfold putB; rw [hlk]; exact hbt
  have e2 : putE great es k c = updE es k c := by unfold putE; rw [hlk]; simp [hbt]
  refine ⟨_, by rw [e1], fun _ => by rw [e2, spot_upd hlk], ?_, (Keeps.of_below hb).setCell hr _⟩
  rw [e2]
  refine Bst.mono ⟨_, _, _, h⟩ (fun x hx => .inl hx) (fun x hx => ?_)
  rcases hx with hx | hx
  · exact h.lt x hx
  · exact hx.2
theorem BPutRet.drew {N : Nat → Prop} {w w' : World} {g wd : Nat} {great : Bool} {es : List Ent} {k : List Int} {c : Int} {e : Ending} (h : BPutRet N g wd great es k c w e w') : BPutRet N g wd great es k c w e w'.drew := by
  obtain ⟨i, h1, h2, h3, h4⟩ := h
  have b : Below w'.heap.size w' w'.drew := below_drewN (Below.refl _ w') 1
  exact ⟨i, h1, h2, h3.below b, h4.trans (Keeps.of_below b)⟩
set_option maxRecDepth 100000 in
set_option maxHeartbeats 4000000 in
theorem bsput_calls {N : Nat → Prop} {w : World} {g wd : Nat} {great : Bool} {es : List Ent} (h : Bst N w g wd great es) (ka : Option Addr) (kc : Nat) (key1 : List Int) (cost : Int) (hk : Row w ka key1) (hkl : key1.length = wd) (hkr : InRange key1) (hwd : wd ≤ 100) (hel : es.length ≤ 100000) :
    Calls Try.prog 53 #[.pointer (some ⟨g, 0, none⟩), .slice ka key1.length kc, .int .i64 cost] w (BPutRet N g wd great es key1 cost w) := by
  have HKY : Hid (keyOf Try.prog 9 (.string (keyText key1)) = some (key (keyText key1))) := Lib.hid (WideMaps.keyOf_string_mk Try.underlying9 (keyText_size (by omega)))
  have HNlt := Lib.hid h.lt
  have HB := Lib.hid h
  have HK := Lib.hid hk
  have HKR := Lib.hid hkr
  have HKL := Lib.hid hkl
  have cb := bytesOf_calls ka kc key1 w hk (by omega)
  obtain ⟨L, tv, mv, hS⟩ := h
  have S0 := Lib.hid hS
  obtain ⟨c0, c1, c2, c3⟩ := hS.c
  have hlx := hkl
  rw [hkl] at cb ⊢
  clear hS hk hkr hkl hlx
  go_enter Try.func53, Try.ntmps53
  go_wp2_with fail
  refine cb.mono ?_
  rintro e W ⟨rfl, hb⟩
  have BW := Lib.hid hb
  have S := Lib.hid (S0.out.below hb)
  clear cb hb c0 c1 c2 c3 S0
  obtain ⟨c0, c1, c2, c3⟩ := S.out.c
  rw [show strOfNums (bytesK key1) = keyText key1 from rfl]
  have ca : lookE es key1 = none → Calls Try.prog 67 #[.pointer (some ⟨g, 0, none⟩), .string (keyText key1), .slice ka wd kc, .int .i64 cost] W (AddRet N g wd great es key1 cost W) := fun hn => by
    have := add_calls ⟨_, _, _, S.out⟩ ka kc key1 cost (HK.out.below BW.out) HKL.out HKR.out hwd hel hn
    rw [HKL.out] at this
    exact this
  have CA := Lib.hid ca
  clear ca
  rcases S.out.map with ⟨hmv, hes⟩ | ⟨b, D, hmv, _, hown, hD⟩
  · rw [hmv] at c3
    have hn : lookE es key1 = none := by rw [hes]; rfl
    have HN := Lib.hid hn
    have hrun := Maps.look_nil (w := W) true law Try.underlying84 (zeroE W) HKY.out
    have CA1 := CA.out hn
    clear hmv hes hn CA
    go_wp2_with fail
    refine CA1.mono ?_
    rintro e W2 ⟨rfl, hb2, hk2⟩
    have B2 := Lib.hid hb2
    have K2 := Lib.hid hk2
    clear hb2 hk2 CA1 hrun
    go_wp2_with fail
    go_ret2
    exact put_of_add BW.out HNlt.out HN.out B2.out K2.out
  · rw [hmv] at c3
    have HD := Lib.hid (hD.2 (keyText key1))
    have M1 : Hid (mem (textsE es) (keyText key1) = (lookE es key1).isSome) := Lib.hid (mem_ts S.out.ok.rng HKR.out)
    have P1 : Hid (place (textsE es) (keyText key1) = spotE es key1) := Lib.hid (place_ts S.out.ok.rng HKR.out)
    clear hmv hD
    cases hlk : lookE es key1 with
    | none =>
      have HN := Lib.hid hlk
      have CA1 := CA.out hlk
      rw [hlk] at M1
      clear CA hlk
      go_wp2_with (first | (at_lookup; refine wpList_lookup_own_ok_int _ rfl _ _ 84 rfl 9 3 .i64 law Try.underlying84 Try.underlying3 (zeroE _) b es.length D rfl hown _ _ rfl HKY.out ?_; intro cc hat hwc; clear hat hwc; rw [HD.out.1, M1.out]; simp only [Option.isSome_none]))
      refine CA1.mono ?_
      rintro e W2 ⟨rfl, hb2, hk2⟩
      have B2 := Lib.hid hb2
      have K2 := Lib.hid hk2
      clear hb2 hk2 CA1
      go_wp2_with fail
      go_ret2
      exact put_of_add BW.out HNlt.out HN.out B2.out K2.out
    | some d =>
      have HN := Lib.hid hlk
      rw [hlk] at M1
      have A1 : Hid (D.atKey (key (keyText key1)) (.lit (.int .i64 0)) = .lit (.int .i64 (spotE es key1))) := Lib.hid (by rw [HD.out.2]; unfold placeOr0; rw [if_pos (by rw [M1.out]; rfl), P1.out])
      obtain ⟨tb, tc, r, rc, htv, hsl, q1, q2, q3, hNr, hst⟩ := S.out.store hlk cost
      rw [htv] at c2
      have SL : Hid (spotE es key1 < L.length) := Lib.hid hsl
      have hLl : L.length ≤ 100000 := by rw [S.out.len]; exact hel
      have HI : Hid (spotE es key1 = spotE es key1) := Lib.hid rfl
      clear CA hlk hst q3 htv
      obtain ⟨i, hi⟩ : ∃ i, spotE es key1 = i := ⟨_, rfl⟩
      have HI2 := Lib.hid hi
      rw [hi] at A1 hsl q1
      clear hi
      have lb : ∀ q, Calls Try.prog 38 #[.pointer (some ⟨g, 0, none⟩), .int .i64 cost, .int .i64 d] (W.drewN q) (fun e w' => e = .returned (.bool (betterB great cost d)) ∧ w' = W.drewN q) := fun q => (better_calls (w := W.drewN q) (by rw [← c1]; exact (below_drewN (Below.refl W.heap.size W) q).cell (p := ⟨g, 1, none⟩) (S.out.lt g S.out.gN)) cost d).mono fun e w' h => ⟨h.1, h.2.symm⟩
      cases hbt : betterB great cost d with
      | false =>
        rw [hbt] at lb
        have HBT := Lib.hid hbt
        clear hbt
        go_wp2_with (first | (at_lookup; refine wpList_lookup_own_ok_int _ rfl _ _ 84 rfl 9 3 .i64 law Try.underlying84 Try.underlying3 (zeroE _) b es.length D rfl hown _ _ rfl HKY.out ?_; intro cc hat hwc; obtain rfl := lit_inj (hat.symm.trans A1.out); clear hat hwc; rw [HD.out.1, M1.out]; simp only [Option.isSome_some]))
        go_quiet ((exact Calls.quiet_of_same (lb _)))
        go_wp2_with fail
        go_ret2
        exact put_not HN.out HBT.out HB.out (below_drewN BW.out _) _
      | true =>
        rw [hbt] at lb
        have HBT := Lib.hid hbt
        clear hbt
        go_wp2_with (first | (at_lookup; refine wpList_lookup_own_ok_int _ rfl _ _ 84 rfl 9 3 .i64 law Try.underlying84 Try.underlying3 (zeroE _) b es.length D rfl hown _ _ rfl HKY.out ?_; intro cc hat hwc; obtain rfl := lit_inj (hat.symm.trans A1.out); clear hat hwc; rw [HD.out.1, M1.out]; simp only [Option.isSome_some]))
        go_quiet ((exact Calls.quiet_of_same (lb _)))
        rename_i qd
        have BV := Lib.hid (below_drewN BW.out nq)
        have SV := Lib.hid (S.out.below (below_drewN (Below.refl W.heap.size W) nq))
        clear c0 c1 c2 c3 q1 q2 lb hown
        generalize W.drewN nq = V at *
        obtain ⟨c0, c1, c2, c3⟩ := SV.out.c
        obtain ⟨tb', tc', r', rc', htv, hsl', q1, q2, q3, hNr', hst⟩ := SV.out.store HN.out cost
        rw [htv] at c2
        have HST := Lib.hid hst
        have HR := Lib.hid hNr'
        rw [HI2.out] at q1
        clear htv hst hNr' hsl'
        go_wp2_with fail
        go_region
        go_wp2_with fail
        go_ret2
        have := put_yes HN.out HBT.out HNlt.out BV.out HR.out HST.out
        rw [HI2.out] at this
        exact this.drew
end Go.Proofs.Ytcecndjkfdaaaaa
