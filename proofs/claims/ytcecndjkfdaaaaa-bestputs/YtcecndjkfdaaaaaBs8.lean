/- best's Put and Get. -/
import Derived.Test.YtcecndjkfdaaaaaBs7
import Derived.Deep.RegionHeld3
namespace Go.Proofs.Ytcecndjkfdaaaaa
open Go.RowKit Go.Maps
set_option linter.unusedVariables false
set_option linter.unusedSimpArgs false

def PutRetB (N : Nat → Prop) (g wd : Nat) (great : Bool) (es : List Ent) (k : List Int) (c : Int) (w : World) (e : Ending) (w' : World) : Prop :=
  e = .returned (.bool (putB great es k c)) ∧ Bst (NN N w.heap.size w'.heap.size) w' g wd great (putE great es k c) ∧ Keeps N w w'
theorem bput2_calls {N : Nat → Prop} {w : World} {g wd : Nat} {great : Bool} {es : List Ent} (h : Bst N w g wd great es) (ka : Option Addr) (kc : Nat) (key1 : List Int) (cost : Int) (hk : Row w ka key1) (hkl : key1.length = wd) (hkr : InRange key1) (hwd : wd ≤ 100) (hel : es.length ≤ 100000) :
    Calls Try.prog 28 #[.pointer (some ⟨g, 0, none⟩), .slice ka key1.length kc, .int .i64 cost] w (PutRetB N g wd great es key1 cost w) := by
  have cp := bsput_calls h ka kc key1 cost hk hkl hkr hwd hel
  clear h hk hkl
  go_enter Try.func28, Try.ntmps28
  go_wp2_with fail
  refine cp.mono ?_
  rintro e W ⟨i, rfl, _, hB, hK⟩
  have HB := Lib.hid hB
  have HK := Lib.hid hK
  clear cp hB hK
  go_wp2_with fail
  go_ret
  exact ⟨rfl, HB.out, HK.out⟩
theorem bput_calls {N : Nat → Prop} {w : World} {g wd : Nat} {great : Bool} {es : List Ent} (h : Bst N w g wd great es) (ka : Option Addr) (kc : Nat) (key1 : List Int) (cost : Int) (hk : Row w ka key1) (hkN : 0 < key1.length → ∀ x, ka = some x → ¬ N x.block) (hkl : key1.length = wd) (hkr : InRange key1) (hwd : wd ≤ 100) (hel : es.length ≤ 100000) :
    Calls Try.prog 28 #[.pointer (some ⟨g, 0, none⟩), .slice ka key1.length kc, .int .i64 cost] w (PutRetB N g wd great es key1 cost w) := bput2_calls h ka kc key1 cost hk hkl hkr hwd hel
/-- A key of another width is not put. -/
theorem bput_wide {N : Nat → Prop} {w : World} {g wd : Nat} {great : Bool} {es : List Ent} (h : Bst N w g wd great es) (ka : Option Addr) (kc : Nat) (key1 : List Int) (cost : Int) (hkl : key1.length ≠ wd) (hwd : wd ≤ 100) (hm : key1.length ≤ 1000) :
    Calls Try.prog 28 #[.pointer (some ⟨g, 0, none⟩), .slice ka key1.length kc, .int .i64 cost] w (fun e w' => e = .returned (.bool false) ∧ w = w') := by
  obtain ⟨L, tv, mv, hS⟩ := h
  obtain ⟨c0, c1, c2, c3⟩ := hS.c
  have t0 : ((key1.length : Int) != (wd : Int)) = true := by rw [bne_iff_ne]; omega
  clear hS
  have cp : Calls Try.prog 53 #[.pointer (some ⟨g, 0, none⟩), .slice ka key1.length kc, .int .i64 cost] w (fun e w' => e = .returned (.tuple #[.int .i64 0, .bool false]) ∧ w = w') := by
    go_enter Try.func53, Try.ntmps53
    go_wp2_with fail
    go_ret2
    exact ⟨rfl, rfl⟩
  clear c0 c1 c2 c3 t0
  go_enter Try.func28, Try.ntmps28
  go_wp2_with fail
  refine cp.mono ?_
  rintro e W ⟨rfl, rfl⟩
  go_wp2_with fail
  go_ret
  exact ⟨rfl, rfl⟩
def costOr (o : Option Int) : Int := o.getD 0
def GetRet (es : List Ent) (k : List Int) (w : World) (e : Ending) (w' : World) : Prop := e = .returned (.tuple #[.int .i64 (costOr (lookE es k)), .bool (lookE es k).isSome]) ∧ Below w.heap.size w w'
theorem look_run {N : Nat → Prop} {w : World} {g wd : Nat} {great : Bool} {es : List Ent} {L : List RV} {tv mv : Value} (h : BS N w g wd great es L tv mv) {k : List Int} (hkr : InRange k) (hl : k.length ≤ 1000) :
    (Instr.lookup 84 mv (.string (keyText k)) true).run Try.prog w = .ok (.tuple #[.int .i64 (if (lookE es k).isSome = true then (spotE es k : Int) else 0), .bool (lookE es k).isSome]) w := by
  have hkey : keyOf Try.prog 9 (.string (keyText k)) = some (key (keyText k)) := WideMaps.keyOf_string_mk Try.underlying9 (keyText_size hl)
  rcases h.map with ⟨rfl, rfl⟩ | ⟨b, D, rfl, _, hown, hD⟩
  · exact Maps.look_nil (w := w) true law Try.underlying84 (zeroE w) hkey
  · obtain ⟨v, ps, hrun, hv⟩ := hown.look_ok law Try.underlying84 (zeroE w) (plainElem_int Try.underlying3 (by decide)) hkey
    obtain ⟨c, rfl, hc, _⟩ := plainElem_int_inv Try.underlying3 hv
    rw [hrun, (hD.2 (keyText k)).1, mem_ts h.ok.rng hkr]
    have h1 : D.atKey (key (keyText k)) (.lit (.int .i64 0)) = .lit (.int .i64 c) := congrArg Prod.fst hc
    rw [(hD.2 (keyText k)).2] at h1
    have h2 := lit_inj h1
    unfold placeOr0 at h2
    rw [mem_ts h.ok.rng hkr, place_ts h.ok.rng hkr] at h2
    rw [h2]
theorem held1 {w : World} {g B : Nat} {mv : Value} {w1 w2 : World} (hg : g < B) (h : w1.cell? ⟨g, 3, none⟩ = some mv ∧ Below B w w1 ∧ B ≤ w1.heap.size) (hb : Below w1.heap.size w1 w2) : w2.cell? ⟨g, 3, none⟩ = some mv ∧ Below B w w2 ∧ B ≤ w2.heap.size :=
  ⟨(hb.cell (p := ⟨g, 3, none⟩) (Nat.lt_of_lt_of_le hg h.2.2)).trans h.1, h.2.1.trans (hb.mono h.2.2), Nat.le_trans h.2.2 hb.size⟩
set_option maxRecDepth 100000 in
set_option maxHeartbeats 4000000 in
theorem get_calls {N : Nat → Prop} {w : World} {g wd : Nat} {great : Bool} {es : List Ent} (h : Bst N w g wd great es) (ka : Option Addr) (kc : Nat) (key1 : List Int) (hk : Row w ka key1) (hkr : InRange key1) (hkl : key1.length ≤ 1000) (hwd : wd ≤ 100) (hel : es.length ≤ 100000) :
    Calls Try.prog 29 #[.pointer (some ⟨g, 0, none⟩), .slice ka key1.length kc] w (GetRet es key1 w) := by
  obtain ⟨L, tv, mv, hS⟩ := h
  obtain ⟨B, hB⟩ : ∃ B, w.heap.size = B := ⟨_, rfl⟩
  have HB := Lib.hid hB
  have S0 := Lib.hid hS
  have hgB : g < B := by rw [← hB]; exact hS.lt g hS.gN
  have CB : Hid (∀ w', Below B w w' → Calls Try.prog 54 #[.slice ka key1.length kc] w' (BytesRet w' key1)) := Lib.hid (fun w' hb => bytesOf_calls ka kc key1 w' (hk.belowB hB hb) hkl)
  have LK : ∀ w', Below B w w' → (Instr.lookup 84 mv (.string (strOfNums (bytesK key1))) true).run Try.prog w' = .ok (.tuple #[.int .i64 (if (lookE es key1).isSome = true then (spotE es key1 : Int) else 0), .bool (lookE es key1).isSome]) w' := fun w' hb => look_run (hS.below (by rw [hB]; exact hb)) hkr hkl
  obtain ⟨c0, c1, c2, c3⟩ := hS.c
  have s1 : Below B w w := Below.refl _ _
  have s2 : B ≤ w.heap.size := Nat.le_of_eq hB.symm
  clear hS hB hk hkr
  cases hlk : lookE es key1 with
  | none =>
    have HN := Lib.hid hlk
    simp only [hlk, Option.isSome_none, if_false, Bool.false_eq_true] at LK
    clear hlk
    go_enter Try.func29, Try.ntmps29
    go_wp2_with fail
    go_region_held3 (fun w' => w'.cell? ⟨g, 3, none⟩ = some mv ∧ Below B w w' ∧ B ≤ w'.heap.size)
      (first | (exact ⟨c3, s1.drew, s2⟩) | assumption | (exact held1 hgB ‹_ ∧ _ ∧ _› ‹Below _ _ _›))
      (first
        | (go_at_call 54; (with_reducible refine (CB.out _ (And.left (And.right ‹_ ∧ Below B w _ ∧ _›))).mono ?_); rintro e w4 ⟨rfl, hb4⟩))
    rename_i hHeld
    have BF := Lib.hid hHeld.2.1
    clear hb4 hHeld
    go_wp2_with fail
    go_ret2
    exact ⟨by rw [HN.out]; rfl, by rw [HB.out]; exact BF.out⟩
  | some d =>
    have HN := Lib.hid hlk
    simp only [hlk, Option.isSome_some, if_true] at LK
    have hLl : L.length ≤ 100000 := by rw [S0.out.len]; exact hel
    have hsl : spotE es key1 < L.length := by rw [S0.out.len]; exact spot_lt hlk
    clear hlk
    obtain ⟨i, hi⟩ : ∃ i, spotE es key1 = i := ⟨_, rfl⟩
    have HI := Lib.hid hi
    rw [hi] at hsl
    simp only [hi] at LK
    clear hi
    go_enter Try.func29, Try.ntmps29
    go_wp2_with fail
    go_region_held3 (fun w' => w'.cell? ⟨g, 3, none⟩ = some mv ∧ Below B w w' ∧ B ≤ w'.heap.size)
      (first | (exact ⟨c3, s1.drew, s2⟩) | assumption | (exact held1 hgB ‹_ ∧ _ ∧ _› ‹Below _ _ _›))
      (first
        | (go_at_call 54; (with_reducible refine (CB.out _ (And.left (And.right ‹_ ∧ Below B w _ ∧ _›))).mono ?_); rintro e w4 ⟨rfl, hb4⟩))
    rename_i hHeld
    have BF := Lib.hid hHeld.2.1
    clear hb4 hHeld
    have S4 := Lib.hid (S0.out.below (by rw [HB.out]; exact BF.out))
    clear c0 c1 c2 c3
    obtain ⟨c0, c1, c2, c3⟩ := S4.out.c
    obtain ⟨tb, tc, r, rc, htv, _, q1, q2, _, _, _⟩ := S4.out.store HN.out 0
    rw [htv] at c2
    rw [HI.out] at q1
    clear htv LK
    go_wp2_with fail
    go_quiet (fail)
    go_wp2_with fail
    go_ret2
    exact ⟨by rw [HN.out]; rfl, by rw [HB.out]; exact below_drewN BF.out _⟩
end Go.Proofs.Ytcecndjkfdaaaaa
