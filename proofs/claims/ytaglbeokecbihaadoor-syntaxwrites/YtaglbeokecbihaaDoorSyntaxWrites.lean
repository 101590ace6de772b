/- SyntaxWrites: whatever declarations and rules come in, it answers true: what the document's writer makes of the program is what the program's own text says; the input reads as it did; for every input, the tables as the program's text lays them. -/
import Derived.Test.YtaglbeokecbihaaDoorSzO
import Derived.Test.YtaglbeokecbihaaDoorSzL
import Derived.Test.YtaglbeokecbihaaDoorSyLaid
import Derived.Test.YtaglbeokecbihaaDoorTie
import Derived.Test.YtaglbeokecbihaaDoorCards
import Derived.SevenTiedAt
/- Declarations and rules as arguments; what SyntaxWrites answers. Written by mkszr2.py. -/
namespace Go.Proofs.YtaglbeokecbihaaDoor
open Go.ChangeShapes Go.WideShapes Go.ChangeAt Go.Deep Go.RowKit
set_option linter.unusedVariables false
set_option linter.unusedSimpArgs false
theorem ceB4 : Tryd.prog.cellsOf 4 = 1 := by kernel_rfl
theorem ce85 : Tryd.prog.cellsOf 85 = 2 := by kernel_rfl
theorem list_ofD {P : Nat → Int × Bool → Prop} (n : Nat) (h : ∀ i, i < n → ∃ x, P i x) : ∃ T : List (Int × Bool), T.length = n ∧ ∀ i, i < n → P i (diAt T i) := by
  induction n with
  | zero => exact ⟨[], rfl, fun i hi => by omega⟩
  | succ n ih =>
    obtain ⟨T, hT, hP⟩ := ih (fun i hi => h i (by omega))
    obtain ⟨x, hx⟩ := h n (by omega)
    refine ⟨T ++ [x], by simp [hT], fun i hi => ?_⟩
    rcases Nat.lt_succ_iff_lt_or_eq.1 hi with h1 | h1
    · have : diAt (T ++ [x]) i = diAt T i := by simp only [diAt]; rw [List.getElem?_append_left (by omega)]
      rw [this]; exact hP i h1
    · subst h1
      have : diAt (T ++ [x]) i = x := by simp only [diAt]; rw [List.getElem?_append_right (by omega), hT]; simp
      rw [this]; exact hx
theorem list_ofR {P : Nat → RT → Prop} (n : Nat) (h : ∀ i, i < n → ∃ x, P i x) : ∃ T : List RT, T.length = n ∧ ∀ i, i < n → P i (raAt T i) := by
  induction n with
  | zero => exact ⟨[], rfl, fun i hi => by omega⟩
  | succ n ih =>
    obtain ⟨T, hT, hP⟩ := ih (fun i hi => h i (by omega))
    obtain ⟨x, hx⟩ := h n (by omega)
    refine ⟨T ++ [x], by simp [hT], fun i hi => ?_⟩
    rcases Nat.lt_succ_iff_lt_or_eq.1 hi with h1 | h1
    · have : raAt (T ++ [x]) i = raAt T i := by simp only [raAt]; rw [List.getElem?_append_left (by omega)]
      rw [this]; exact hP i h1
    · subst h1
      have : raAt (T ++ [x]) i = x := by simp only [raAt]; rw [List.getElem?_append_right (by omega), hT]; simp
      rw [this]; exact hx
section
variable {H : Type} {enc : TypeId × Value → H} {W : World} {b0 base : Nat} {spare : Nat → Bool} {held : Bool} {v : Value} {d : DataW H} {ps : List MemPlace}
set_option maxRecDepth 100000 in
theorem d_of {fuel : Nat} {cs : List Value} {x : DataW H × List MemPlace} (h : DataW.trod enc Tryd.prog W base spare held fuel 85 cs = some x) : ∃ (p : Int) (b : Bool), cs = [.int .i64 p, .bool b] := by
  obtain ⟨xs, k, hk, _, hl, hxl, hf⟩ := DataW.trod_struct Tryd.underlying85 h
  have g0 := hf 0 _ rfl
  have g1 := hf 1 _ rfl
  rw [ce85] at hl
  match xs, hxl, cs, hl with
  | [q0, q1], _, [v0, v1], _ =>
    have c3 := ce3
    have c4 := ceB4
    simp [c3, c4] at g0 g1
    obtain ⟨p, r0, _⟩ := DataW.trod_int Tryd.underlying3 g0
    obtain ⟨b, r1, _⟩ := DataW.trod_bool Tryd.underlying4 g1
    simp only [List.cons.injEq, and_true] at r0 r1
    subst r0 r1
    exact ⟨_, _, rfl⟩
set_option maxRecDepth 100000 in
theorem ds_of {fuel : Nat} {cs : List Value} {x : DataW H × List MemPlace} (h : DataW.trod enc Tryd.prog W base spare held fuel 22 cs = some x) : ∃ (a : Option Addr) (D : List (Int × Bool)) (cap : Nat), cs = [.slice a D.length cap] ∧ DIn W.heap.size W a D := by
  rcases open_slice Tryd.underlying22 h with ⟨hcs, _⟩ | ⟨y, len, cap, m, n, E, Pl, rfl, _, hl, hm, hmm, _, hall⟩
  · exact ⟨none, [], 0, hcs, .inl rfl⟩
  · have hml : len ≤ m := by rw [hmm]; split <;> omega
    have ce := ce85
    obtain ⟨D, hD, hP⟩ := list_ofD (P := fun i p => W.cell? (y.add (i * 2)) = some (.int .i64 p.1) ∧ W.cell? (y.add (i * 2 + 1)) = some (.bool p.2)) len (fun i hi => by
      obtain ⟨cs', h1, h2⟩ := hall i (by omega)
      rw [ce] at h1
      obtain ⟨hlen, _, hcell⟩ := World.cells?_some h1
      obtain ⟨p, b, rfl⟩ := d_of h2
      have h4 := hcell 0 (by omega)
      have h5 := hcell 1 (by omega)
      rw [add_add] at h4 h5
      exact ⟨(p, b), h4, h5⟩)
    refine ⟨some y, D, cap, by rw [hD], ?_⟩
    by_cases h0 : D = []
    · exact .inl h0
    · have hpos : 0 < len := by rw [← hD]; exact List.length_pos_iff.2 h0
      have hc0 := (hP 0 hpos).1
      rw [show y.add (0 * 2) = y by simp [Addr.add]] at hc0
      obtain ⟨b, off, rfl, hb⟩ := spot_of hc0
      have ad : ∀ j, (⟨b, off, none⟩ : Addr).add j = ⟨b, off + j, none⟩ := fun j => by simp only [Addr.add]; split <;> simp_all
      refine .inr ⟨b, off, rfl, hb, fun i hi => ?_⟩
      have h2 := hP i (by omega)
      rw [ad, ad] at h2
      exact h2
set_option maxRecDepth 100000 in
theorem rs_of {fuel : Nat} {cs : List Value} {x : DataW H × List MemPlace} (h : DataW.trod enc Tryd.prog W base spare held fuel 23 cs = some x) : ∃ (a : Option Addr) (R : List RT) (cap : Nat), cs = [.slice a R.length cap] ∧ RIn W.heap.size W a R := by
  rcases open_slice Tryd.underlying23 h with ⟨hcs, _⟩ | ⟨y, len, cap, m, n, E, Pl, rfl, _, hl, hm, hmm, _, hall⟩
  · exact ⟨none, [], 0, hcs, .inl rfl⟩
  · have hml : len ≤ m := by rw [hmm]; split <;> omega
    have ce := ce67
    obtain ⟨R, hR, hP⟩ := list_ofR (P := fun i r => ∃ cs, RC W.heap.size W r cs ∧ ∀ j u, cs[j]? = some u → W.cell? (y.add (i * 4 + j)) = some u) len (fun i hi => by
      obtain ⟨cs', h1, h2⟩ := hall i (by omega)
      rw [ce] at h1
      obtain ⟨hlen, _, hcell⟩ := World.cells?_some h1
      obtain ⟨hd, a, T, c, agg, b, Q, d, rfl, hT, hQ⟩ := r_of h2
      refine ⟨⟨hd, T, agg, Q⟩, _, ⟨a, c, b, d, rfl, hT, hQ⟩, fun j u hu => ?_⟩
      have hj : j < 4 := by
        rcases Nat.lt_or_ge j 4 with h9 | h9
        · exact h9
        · rw [List.getElem?_eq_none (by show 4 ≤ j; exact h9)] at hu; cases hu
      have h4 := hcell j hj
      rw [add_add] at h4
      rw [h4, hu])
    refine ⟨some y, R, cap, by rw [hR], ?_⟩
    by_cases h0 : R = []
    · exact .inl h0
    · have hpos : 0 < len := by rw [← hR]; exact List.length_pos_iff.2 h0
      obtain ⟨cs, hpc, hc⟩ := hP 0 hpos
      obtain ⟨a, c, b, d, rfl, _⟩ := id hpc
      have hc0 := hc 0 _ rfl
      rw [show y.add (0 * 4 + 0) = y by simp [Addr.add]] at hc0
      obtain ⟨b, off, rfl, hb⟩ := spot_of hc0
      have ad : ∀ j, (⟨b, off, none⟩ : Addr).add j = ⟨b, off + j, none⟩ := fun j => by simp only [Addr.add]; split <;> simp_all
      refine .inr ⟨b, off, rfl, hb, fun i hi => ?_⟩
      obtain ⟨cs, h1, h2⟩ := hP i (by omega)
      refine ⟨cs, h1, fun j u hu => ?_⟩
      have := h2 j u hu
      rwa [ad, ← Nat.add_assoc] at this
end
set_option maxRecDepth 100000 in
set_option maxHeartbeats 2000000 in
theorem writes_walk (da : Option Addr) (D : List (Int × Bool)) (dc : Nat) (ra : Option Addr) (R : List RT) (rc : Nat) (w : World) (hs : STab w) (hD : DIn w.heap.size w da D) (hR : RIn w.heap.size w ra R) : Calls Tryd.prog 3 #[.slice da D.length dc, .slice ra R.length rc] w (fun e w' => e = .returned (.bool true) ∧ Below w.heap.size w w') := by
  obtain ⟨nd, hnd⟩ : ∃ n, D.length = n := ⟨_, rfl⟩
  obtain ⟨nr, hnr⟩ : ∃ n, R.length = n := ⟨_, rfl⟩
  have ch := Lib.hid (head13_calls w hs)
  have HD := Lib.hid hD
  have HR := Lib.hid hR
  have HS := Lib.hid hs
  have HND := Lib.hid hnd
  have HNR := Lib.hid hnr
  rw [hnd, hnr]
  clear hs hD hR hnd hnr
  by_cases hgt : 6 < nd
  · go_enter Tryd.func3, Tryd.ntmps3
    go_wp2_with fail
    refine ch.out.mono ?_
    rintro e w1 ⟨rfl, hb1⟩
    have HB1 := Lib.hid hb1
    clear hb1 ch
    go_wp2_with fail
    go_ret
    exact ⟨rfl, HB1.out⟩
  · go_enter Tryd.func3, Tryd.ntmps3
    go_wp2_with fail
    refine ch.out.mono ?_
    rintro e w1 ⟨rfl, hb1⟩
    have HB1 := Lib.hid hb1
    have CF := Lib.hid (few_calls ra R rc w.heap.size w1 hb1.size (HR.out.on hb1))
    rw [HNR.out] at CF
    clear hb1 ch
    go_wp2_with fail
    refine CF.out.mono ?_
    rintro e w2 ⟨b, rfl, hbf, hb2⟩
    have HB2 : Hid (Below w.heap.size w w2) := Lib.hid (HB1.out.trans (hb2.mono HB1.out.size))
    clear hb2 CF
    cases b with
    | false =>
      clear hbf
      go_wp2_with fail
      go_ret
      exact ⟨rfl, HB2.out⟩
    | true =>
      have hfew := hbf.1 rfl
      have h6 : 6 ≤ w.heap.size := by have := HS.out.sz; omega
      have CP := Lib.hid (program_calls da D dc ra R rc w.heap.size w2 HB2.out.size (by
        rcases HD.out with h0 | ⟨b, off, ha, hlt, hc⟩
        · exact .inl h0
        · exact .inr ⟨b, off, ha, hlt, fun i hi => ⟨(HB2.out.cell (p := ⟨b, _, none⟩) hlt).trans (hc i hi).1, (HB2.out.cell (p := ⟨b, _, none⟩) hlt).trans (hc i hi).2⟩⟩) (HR.out.on HB2.out) (HS.out.on h6 HB2.out) (by rw [HND.out]; omega) hfew)
      rw [HND.out, HNR.out] at CP
      have HNL : Hid (nr ≤ 12) := Lib.hid (by rw [← HNR.out]; exact hfew.1)
      clear hbf hfew
      go_wp2_with fail
      refine CP.out.mono ?_
      clear CP
      rintro e w3 ⟨ds, rs, vd, dc9, vr, rc9, rfl, hdl, hrl, hpw, hz, ho, hrb⟩
      have HB3 : Hid (Below w.heap.size w w3) := Lib.hid (HB2.out.trans (hpw.bel.mono HB2.out.size))
      have CS := Lib.hid (progString_calls w2.heap.size vd ds dc9 vr rs rc9 w3.heap.size w3 (Nat.le_refl _) (by have := hpw.sz; omega) hpw.box hpw.dRow hpw.ruRow (HS.out.on h6 HB3.out) hz ho (by rw [hdl]; omega) (by rw [hrl]; exact HNL.out) hrb)
      generalize (⟨(progB ds rs).toArray⟩ : ByteArray) = s at *
      clear hpw hz ho hrb hdl hrl
      go_wp2_with fail
      refine CS.out.mono ?_
      clear CS
      rintro e w4 ⟨rfl, hb4⟩
      have HB4 : Hid (Below w.heap.size w w4) := Lib.hid (HB3.out.trans (hb4.mono HB3.out.size))
      clear hb4
      go_wp2_with fail
      go_ret
      exact ⟨rfl, HB4.out⟩
end Go.Proofs.YtaglbeokecbihaaDoor

namespace Go.Proofs.YtaglbeokecbihaaDoor
open Go.ChangeShapes Go.WideShapes Go.ChangeAt Go.RowKit
open Go.ChangeMaps (open_string shut_string)
set_option linter.unusedVariables false
section
variable {H : Type} {enc : TypeId × Value → H} {W : World} {b0 base : Nat} {spare : Nat → Bool} {held : Bool} {v : Value} {d : DataW H} {ps : List MemPlace}
set_option maxRecDepth 100000 in
theorem ds_arg (hv : Value.okWide Tryd.prog W .any b0 22 v) (h : DataW.Trod enc Tryd.prog W base spare held 22 v d ps) : ∃ (a : Option Addr) (D : List (Int × Bool)) (c : Nat), v = .slice a D.length c ∧ DIn W.heap.size W a D := by
  obtain ⟨a, n, c, rfl⟩ := okWide_slice Tryd.underlying22 hv
  obtain ⟨fuel, hf⟩ := h
  obtain ⟨a1, D, c1, e, hD⟩ := ds_of hf
  have e1 : [Value.slice a n c] = [.slice a1 D.length c1] := e
  simp only [List.cons.injEq, and_true] at e1
  exact ⟨a1, D, c1, e1, hD⟩
set_option maxRecDepth 100000 in
theorem rs_arg (hv : Value.okWide Tryd.prog W .any b0 23 v) (h : DataW.Trod enc Tryd.prog W base spare held 23 v d ps) : ∃ (a : Option Addr) (R : List RT) (c : Nat), v = .slice a R.length c ∧ RIn W.heap.size W a R := by
  obtain ⟨a, n, c, rfl⟩ := okWide_slice Tryd.underlying23 hv
  obtain ⟨fuel, hf⟩ := h
  obtain ⟨a1, R, c1, e, hR⟩ := rs_of hf
  have e1 : [Value.slice a n c] = [.slice a1 R.length c1] := e
  simp only [List.cons.injEq, and_true] at e1
  exact ⟨a1, R, c1, e1, hR⟩
end

set_option maxRecDepth 100000 in
theorem syntaxWrites_lifted (os : Os) (started : os.Started) (H : Type) (enc : TypeId × Value → H) :
    ReturnsInHanded {} Tryd.checked os 3 .any (fun w args => (Rows.syntaxWritesSpec.pre enc Tryd.prog Tryd.f3 [] false w args ∧ laidMetH Tryd.prog laidSy w) ∧ sizedMet enc Tryd.prog Tryd.f3 (OpenSpec.ofChange Rows.syntaxWritesSpec) false w args)
      (Rows.syntaxWritesSpec.post enc Tryd.prog Tryd.f3 false true false false) := by
  refine returnsInHanded_of_change_and (C := Tryd.checked) (X := fun w _ => laidMetH Tryd.prog laidSy w) (fun _ _ _ hh h => h.of_heap hh) own started (by kernel_rfl) Tryd.func3
    (ChangeSpec.witness_shaped (enc := enc) (C := Tryd.checked) (os := os) (X := fun w _ => laidMetH Tryd.prog laidSy w) false (World.doorLaid Tryd.prog 39 os) #[.slice none 0 0, .slice none 0 0] 8 rfl (World.shaped_of_RefB (by kernel_rfl) (by kernel_rfl)) (by kernel_rfl) (by kernel_rfl) (by kernel_rfl) (door_sy os _)) ?_
  intro W base args ds gs before hval0 hW _ hsz hL _
  have hval : ∀ (j : Nat) t v, Tryd.f3.params[j]? = some t → args[j]? = some v → Value.okWide Tryd.prog W .any base t v := hval0
  have hW' := hW
  obtain ⟨p, q, hA0, hV, rfl, hfz, hnd⟩ := hW
  have hA : DataW.TrodAll enc Tryd.prog W 0 (fun _ => true) true Tryd.f3.params.toList args.toList ds p := hA0
  rw [Tryd.params3] at hA hval
  obtain ⟨v0, vs0, d0, ds0, p0, q0, hargs, rfl, rfl, h0, r0⟩ := trodAll_cons hA
  obtain ⟨v1, vs1, d1, ds1, p1, q1, rfl, rfl, rfl, h1, r1⟩ := trodAll_cons r0
  obtain ⟨rfl, rfl, rfl⟩ := trodAll_nil r1
  obtain rfl : args = #[v0, v1] := by cases args; simp_all
  obtain ⟨rfl, rfl⟩ := trodVars_none hV
  have k0 := h0
  have k1 := h1
  have lt0 : ∀ x ∈ p0, x.block < W.heap.size := by obtain ⟨m, hm⟩ := k0; exact DataW.trod_lt m _ _ _ hm
  have lt1 : ∀ x ∈ p1, x.block < W.heap.size := by obtain ⟨m, hm⟩ := k1; exact DataW.trod_lt m _ _ _ hm
  obtain ⟨da, D, dc, rfl, hD⟩ := ds_arg (hval 0 22 v0 rfl rfl) h0
  obtain ⟨ra, R, rc, rfl, hR⟩ := rs_arg (hval 1 23 v1 rfl rfl) h1
  have hs := stab_of_laid hL
  clear hA0 hval0
  refine (writes_walk da D dc ra R rc W hs hD hR).mono fun e W' ⟨he, bel⟩ => ?_
  subst he
  exact ⟨_, rfl, _, _, _, [], _, [], hW', trodAll_mk1 (shut_bool Tryd.underlying4 _), (trodAll_cons_mk (Below.trod laidOut (by kernel_rfl) (of_decide_eq_true (by kernel_rfl)) k0 bel lt0) (trodAll_cons_mk (Below.trod laidOut (by kernel_rfl) (of_decide_eq_true (by kernel_rfl)) k1 bel lt1) trodAll_mk0)), rfl, bel.frame _, fun h => by cases h⟩

theorem syntaxWrites_holds : Rows.SyntaxWritesSaid :=
  OpenClaim.holds_of_wide 3 Tryd.f3 rfl rfl rfl rfl rfl rfl rfl ⟨rfl, rfl, rfl, rfl, rfl⟩ rfl rfl rfl rfl rfl (by kernel_rfl) Tryd.func3 (by kernel_rfl)
    (of_decide_eq_true (by kernel_rfl)) (by unfold Func.isWrapper; first | (rw [if_pos (by decide +kernel)]; kernel_rfl) | (rw [if_neg (by decide +kernel)]; exact ⟨rfl, rfl⟩))
    (fun os started H enc _ => syntaxWrites_lifted os started H enc)

theorem syntaxWrites_card : Rows.SyntaxWritesCardSaid :=
  Claim7.holds_tied_plain_at .later [] [.data, .data, .data, .data, .data, .data] true (true, "82ab8fd628d61ade1dd6f49feada8f93ced0d97afce3238947fe2d631cb6df00") false
    syntaxWrites_holds (fun _ h => by cases h) (by kernel_rfl) (fun _ h => by cases h) syntaxWrites_row_tie rfl ⟨rfl, rfl⟩ (by kernel_rfl) rfl
    (fun f fn hf hfn => by
      obtain rfl : f = 3 := Option.some.inj ((show Tryd.prog.funcNamed "ergo/ergolaw13.SyntaxWrites" = some 3 by kernel_rfl).symm.trans hf) |>.symm
      obtain rfl : fn = Tryd.f3 := (Option.some.inj (Tryd.func3.symm.trans hfn)).symm
      exact ⟨by kernel_rfl, fun j t ht => by
        rw [Tryd.params3] at ht
        have hm : t ∈ [22, 23] := by simpa using Array.mem_of_getElem? ht
        have hall : ([22, 23].all fun u => !Tryd.prog.wantsStandIn u) = true := by kernel_rfl
        exact (show Tryd.prog.wantsStandIn t = false by simpa using List.all_eq_true.1 hall t hm)⟩)
    (by kernel_rfl)
#print axioms syntaxWrites_card
end Go.Proofs.YtaglbeokecbihaaDoor
