/- The law's place. -/
import Derived.Test.YtcecndjkfdaaaaaBs13
import Derived.Test.YtcecndjkfdaaaaaUl
namespace Go.Proofs.Ytcecndjkfdaaaaa
open Go.RowKit Go.Maps
set_option linter.unusedVariables false
set_option linter.unusedSimpArgs false

theorem row_takeB {w : World} {a : Option Addr} {zs : List Int} (h : Row w a zs) (k : Nat) : Row w a (zs.take k) := by
  rcases h with rfl | ⟨b, off, rfl, hlt, hc⟩
  · rw [List.take_nil]; exact .inl rfl
  · refine .inr ⟨b, off, rfl, hlt, fun i hi => ?_⟩
    have h1 : i < zs.length := by simp at hi; omega
    have h2 : i < k := by simp at hi; omega
    rw [hc i h1, List.getElem?_take_of_lt h2]
/-- Where a key stands; below 0: nowhere. -/
def placeE (es : List Ent) (k : List Int) : Int := if (lookE es k).isSome = true then (spotE es k : Int) else -1
theorem spot_first {es : List Ent} {k : List Int} {i : Nat} {c : Int} (hn : ∀ j, j < i → ∀ e, es[j]? = some e → e.1 ≠ k) (h : es[i]? = some (k, c)) : lookE es k = some c ∧ spotE es k = i := by
  induction es generalizing i with
  | nil => simp at h
  | cons e es ih =>
    cases i with
    | zero =>
      simp at h
      subst h
      simp [lookE, spotE]
    | succ i =>
      have h0 : e.1 ≠ k := hn 0 (by omega) e (by simp)
      have := ih (i := i) (fun j hj x hx => hn (j + 1) (by omega) x (by simpa using hx)) (by simpa using h)
      simp [lookE, spotE, h0, this.1, this.2]
theorem look_not {es : List Ent} {k : List Int} (h : ∀ j, j < es.length → ∀ e, es[j]? = some e → e.1 ≠ k) : lookE es k = none := by
  rw [look_none]
  intro e he
  obtain ⟨j, hj, rfl⟩ := List.getElem_of_mem he
  exact h j hj _ (List.getElem?_eq_getElem hj)
/-- A list of rows that are keys with costs. -/
structure RE (w : World) (a : Option Addr) (wd : Nat) (es : List Ent) (L : List RV) : Prop where
  rr : RRow w a L
  cont : L.map (·.2.1) = es.map rowE
  ok : OkE wd es
theorem RE.below {w w' : World} {a : Option Addr} {wd : Nat} {es : List Ent} {L : List RV} (h : RE w a wd es L) (hb : Below w.heap.size w w') : RE w' a wd es L := ⟨h.rr.below hb, h.cont, h.ok⟩
theorem RE.belowB {w w' : World} {B : Nat} {a : Option Addr} {wd : Nat} {es : List Ent} {L : List RV} (h : RE w a wd es L) (hB : w.heap.size = B) (hb : Below B w w') : RE w' a wd es L := by subst hB; exact h.below hb
theorem RE.len {w : World} {a : Option Addr} {wd : Nat} {es : List Ent} {L : List RV} (h : RE w a wd es L) : L.length = es.length := by have := congrArg List.length h.cont; simpa using this
theorem RE.at {w : World} {a : Option Addr} {wd : Nat} {es : List Ent} {L : List RV} (h : RE w a wd es L) {i : Nat} (hi : i < L.length) : ∃ e, es[i]? = some e ∧ (atV L i).2.1 = rowE e ∧ e.1.length = wd ∧ InRange e.1 := by
  have hl : i < es.length := by rw [← h.len]; exact hi
  refine ⟨es[i], List.getElem?_eq_getElem hl, ?_, h.ok.len _ (List.getElem_mem hl), h.ok.rng _ (List.getElem_mem hl)⟩
  have := congrArg (fun l => l[i]?) h.cont
  simp only [List.getElem?_map, List.getElem?_eq_getElem hi, List.getElem?_eq_getElem hl, Option.map_some, Option.some.injEq] at this
  rw [atV_eq hi]; exact this
set_option maxRecDepth 100000 in
set_option maxHeartbeats 2000000 in
theorem place_calls {w : World} {a : Option Addr} {wd : Nat} {es : List Ent} {L : List RV} (cap : Nat) (h : RE w a wd es L) (ka : Option Addr) (kc : Nat) (key : List Int) (hk : Row w ka key) (hkl : key.length = wd) (hwd : wd ≤ 100) (hL : L.length ≤ 1000) :
    Calls Try.prog 30 #[.slice a L.length cap, .slice ka key.length kc] w (Quiet (.int .i64 (placeE es key)) w) := by
  have HR := Lib.hid h
  have HK := Lib.hid hk
  have HKL := Lib.hid hkl
  rw [hkl]
  clear h hk hkl
  go_enter Try.func30, Try.ntmps30
  go_wp2_with fail
  go_loopw [9] (fun s wr => ∃ i q : Nat, s = .int .i64 i ∧ i ≤ L.length ∧ Hid (∀ j, j < i → ∀ e, es[j]? = some e → e.1 ≠ key) ∧ Hid (wr = w.drewN q)) (fun s _ => L.length - (intOf s).toNat)
  case atStart => exact ⟨0, 0, rfl, Nat.zero_le _, Lib.hid (fun j hj => by omega), Lib.hid rfl⟩
  case round =>
    obtain ⟨i, q, rfl, hi, HNo, HW⟩ := hrel
    have bq : Hid (Below w.heap.size w wr) := Lib.hid (by rw [HW.out]; exact below_drewN (Below.refl _ _) q)
    by_cases hlt : i < L.length
    · have hX := HR.out.below bq.out
      obtain ⟨b, off, ha, _, hcell, hrow, hcp⟩ := hX.rr.at hlt
      obtain ⟨e, he, hre, hel, _⟩ := hX.at hlt
      have HE := Lib.hid he
      rw [hre] at hcell hrow hcp
      have hrl : (rowE e).length = wd + 1 := by simp [rowE, hel]
      have htk : (rowE e).take wd = e.1 := by rw [← hel]; simp [rowE]
      have hr2 := row_takeB hrow wd
      rw [htk] at hr2
      rw [hrl] at hcell hcp
      have cc := lawCompare_calls (atV L i).1 ka (atV L i).2.2 kc e.1 key wr hr2 (HK.out.below bq.out) (by omega) (by rw [HKL.out]; omega)
      rw [hel, HKL.out] at cc
      cases ha
      have qa : (wd : Int) ≤ ((atV L i).2.2 : Int) := by omega
      have qb : ¬ (atV L i).2.2 = 0 := by omega
      clear hX he hre hrow hcp hrl htk hr2
      generalize (atV L i).1 = xa at *
      generalize (atV L i).2.2 = xc at *
      by_cases heq : e.1 = key
      · have hz : cmpR e.1 key = 0 := by rw [heq]; exact cmpR_self _
        rw [hz] at cc
        have F : Hid (placeE es key = (i : Int)) := Lib.hid (by
          obtain ⟨k9, c9⟩ := e
          simp only at heq
          subst heq
          have := spot_first HNo.out HE.out
          unfold placeE; rw [this.1, this.2]; rfl)
        clear heq hz
        go_wp2_with fail
        refine cc.mono ?_
        rintro e1 w2 ⟨rfl, q2, hw2⟩
        have HW2 : Hid (w2 = w.drewN (q + q2)) := Lib.hid (by rw [hw2]; exact drewM HW.out)
        clear cc hw2 hcell
        go_wp2_with fail
        go_ret
        exact ⟨ret_i64 F.out.symm, _, HW2.out⟩
      · have hz : cmpR e.1 key ≠ 0 := fun h => heq (cmpR_eq h)
        obtain ⟨cv, hcv⟩ : ∃ cv, cmpR e.1 key = cv := ⟨_, rfl⟩
        rw [hcv] at cc hz
        have tz : (cv == 0) = false := beq_eq_false_iff_ne.2 hz
        have NX : Hid (∀ j, j < i + 1 → ∀ e, es[j]? = some e → e.1 ≠ key) := Lib.hid (fun j hj e' he' => by
          rcases Nat.lt_succ_iff_lt_or_eq.1 hj with h1 | h1
          · exact HNo.out j h1 e' he'
          · subst h1
            rw [HE.out] at he'
            cases he'
            exact heq)
        clear heq hcv hz
        go_wp2_with fail
        refine cc.mono ?_
        rintro e1 w2 ⟨rfl, q2, hw2⟩
        have HW2 : Hid (w2 = w.drewN (q + q2)) := Lib.hid (by rw [hw2]; exact drewM HW.out)
        clear cc hw2 hcell
        go_wp2_with fail
        go_roundw
        case rel => exact ⟨i + 1, _, by go_num, by omega, NX, HW2⟩
        case measure => simp [intOf]; omega
    · have tl : decide (i < L.length) = false := decide_eq_false hlt
      have F : Hid (placeE es key = -1) := Lib.hid (by
        have := look_not (fun j hj => HNo.out j (by rw [← HR.out.len] at hj; omega))
        unfold placeE; rw [this]; rfl)
      go_wp2_with fail
      go_ret
      exact ⟨ret_i64 F.out.symm, q, HW.out⟩
end Go.Proofs.Ytcecndjkfdaaaaa
