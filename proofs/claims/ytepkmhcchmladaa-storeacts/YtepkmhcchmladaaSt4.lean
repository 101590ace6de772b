import Derived.Test.YtepkmhcchmladaaSt3
/- The iterator of a relation's rows, told with footprints. -/
namespace Go.Proofs.Ytepkmhcchmladaa
open Go.RowKit Go.Shelf
set_option linter.unusedVariables false
set_option linter.unusedSimpArgs false
attribute [local go_sem] Oper.semAt_some

def AR (rs : List (List Int)) (D : Nat) (pre : List RV) (x : RV) (F : Nat → Prop) (W : World) : Prop :=
  x.2.1 = rowAt rs pre.length ∧ Row W x.1 x.2.1 ∧ x.2.1.length ≤ x.2.2 ∧ (∀ q, x.1 = some q → q.block < W.heap.size ∧ D + 2 ≤ q.block ∧ ¬ F q.block) ∧ pre.length < rs.length
def ARS (rs : List (List Int)) (xs : List RV) : Prop := xs.length = rs.length
set_option maxRecDepth 100000 in
set_option maxHeartbeats 2000000 in
theorem all92_in (n Bp : Nat) (p : Option Addr) (wd : Nat) (rs : List (List Int)) (A : Nat → Prop) (D : Nat) (W0 : World) (hwd : wd ≤ 1000) (hrs : rs.length ≤ 1000) (hWD : W0.heap.size = D)
    (hE : ∀ W, Keeps (fun b => A b ∨ D ≤ b) W0 W → W.cell? ⟨Bp, 0, none⟩ = some (.pointer p) ∧ Seg W p wd rs) :
    IterIs Try.prog n 92 #[.pointer (some ⟨Bp, 0, none⟩)] (fun x => #[encV x]) (AR rs D) offV (ARS rs) (fun _ => True) A D W0 := by
  intro l J Jx F0 W hsz hbw hFA hJF hJK hY h0
  have HE := Lib.hid hE
  have HJF := Lib.hid hJF
  have HJK := Lib.hid hJK
  have HY := Lib.hid hY
  have FA : Hid (∀ b, F0 b → A b ∨ D ≤ b) := Lib.hid (fun b h => .inl (hFA b h))
  have K0 : Hid (Keeps (fun b => A b ∨ D ≤ b) W0 W) := Lib.hid ((Keeps.of_below (N := fun b => A b ∨ D ≤ b) (by rw [hWD]; exact hbw)))
  have J0 := Lib.hid h0
  obtain ⟨c0, hS⟩ := hE _ K0.out
  have cl := segLen_calls hS
  clear hS hE hJF hJK hY hFA h0 hbw
  refine callsIn_of_wp Try.func92 rfl trivial ?_ rfl
  simp only [Try.ntmps92, List.size_toArray, List.length_cons, List.length_nil, Nat.reduceAdd, Nat.reduceSub, Array.replicate_succ, Array.replicate_zero, List.push_toArray, List.append_toArray, List.nil_append, List.cons_append]
  gi_wp2
  refine ⟨trivial, (fun h => by cases h), (callsIn_wide.2 cl).mono ?_⟩
  rintro e w' ⟨rfl, rfl⟩
  gi_wp2
  gi_loopw [6] (fun s wr => ∃ (i : Nat), s = .int .i64 i ∧ i ≤ rs.length ∧ Hid (∃ (pre : List RV) (F : Nat → Prop), pre.length = i ∧ J pre F wr ∧ (∀ b, F b → A b ∨ D ≤ b) ∧ Keeps (fun b => A b ∨ D ≤ b) W0 wr ∧ D + 2 ≤ wr.heap.size)) (fun s _ => rs.length - (intOf s).toNat)
  case atStart => exact ⟨0, rfl, Nat.zero_le _, Lib.hid ⟨[], F0, rfl, J0.out, FA.out, K0.out, hsz⟩⟩
  case round =>
    obtain ⟨i, rfl, hi, HH⟩ := hrel
    by_cases hlt : i < rs.length
    · obtain ⟨pre, F, hpl, hJ, hF, hK, hs⟩ := HH.out
      obtain ⟨c1, hS1⟩ := HE.out _ hK
      have cr := segRowF_calls hS1 i hlt hwd (by omega)
      have HPL := Lib.hid hpl
      have HJ := Lib.hid hJ
      have HF := Lib.hid hF
      have HK := Lib.hid hK
      have HS := Lib.hid hs
      clear hS1 HH hpl hJ hF hK hs c0 cl
      gi_wp2
      refine ⟨trivial, (fun h => by cases h), (callsIn_wide.2 cr).mono ?_⟩
      rintro e W2 ⟨ra, rc, rfl, hr, hc, hfr, hb⟩
      have FS : Hid (∀ b, F b → b < wr.heap.size) := Lib.hid (HJF.out _ _ _ HJ.out)
      have J2 : Hid (J pre F W2) := Lib.hid (HJK.out _ _ _ _ (fun _ => False) HJ.out (Keeps.of_below hb) (fun _ h => h.elim))
      have K2 : Hid (Keeps (fun b => A b ∨ D ≤ b) W0 W2) := Lib.hid (HK.out.trans (Keeps.of_below hb))
      have S2 : Hid (D + 2 ≤ W2.heap.size) := Lib.hid (by have := HS.out; have := hb.size; omega)
      obtain ⟨fn, tmps, assign, body, hy, hRd⟩ := HY.out pre F (ra, rowAt rs i, rc) W2 J2.out ⟨by rw [HPL.out], hr, hc, fun q hq => ⟨(hfr q hq).2, by have := (hfr q hq).1; have := HS.out; omega, fun h => by have := FS.out _ h; have := (hfr q hq).1; omega⟩, by rw [HPL.out]; exact hlt⟩
      dsimp only [encV] at hy
      clear cr hr hc hb hfr c1
      gi_wp2
      refine ⟨(fun h => by cases h), hRd.mono ?_⟩
      rintro e W3 (⟨rfl, F', hJ3, hK3, hF3⟩ | ⟨rfl, hx⟩)
      · have NX : Hid (∃ (pre : List RV) (F : Nat → Prop), pre.length = i + 1 ∧ J pre F W3 ∧ (∀ b, F b → A b ∨ D ≤ b) ∧ Keeps (fun b => A b ∨ D ≤ b) W0 W3 ∧ D + 2 ≤ W3.heap.size) :=
          Lib.hid ⟨pre ++ [(ra, rowAt rs i, rc)], F', by rw [List.length_append, HPL.out]; rfl, hJ3, fun b hb => by
            rcases hF3 b hb with h | h
            · exact HF.out b h
            · have := S2.out; exact .inr (by omega), K2.out.trans (hK3.mono (fun b _ h => HF.out b h)), by have := S2.out; have := hK3.size; omega⟩
        clear hJ3 hK3 hF3 hRd hy
        gi_wp2
        go_roundw
        case rel => exact ⟨i + 1, by go_num, by omega, NX⟩
        case measure => simp [intOf]; omega
      · have HX := Lib.hid hx
        clear hx hRd hy
        gi_wp2
        try simp only [Exit.inBlock, Exit.then]
        refine bodyPost_ret (results_none rfl _ _ _) rfl ?_
        exact ⟨⟨_, rfl⟩, .inr ⟨_, trivial, HX.out⟩⟩
    · have tl : decide (i < rs.length) = false := decide_eq_false hlt
      obtain ⟨pre, F, hpl, hJ, hF, hK, hs⟩ := HH.out
      have HJ := Lib.hid hJ
      have HPL := Lib.hid hpl
      clear hJ hpl hF hK hs HH
      gi_wp2
      go_end0
      exact ⟨⟨_, rfl⟩, .inl ⟨pre, F, by unfold ARS; rw [HPL.out]; omega, HJ.out⟩⟩
end Go.Proofs.Ytepkmhcchmladaa
