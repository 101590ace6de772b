import Derived.Test.YtepkmhcchmladaaMr4
import Derived.Test.YtepkmhcchmladaaSg10
/- The law's few and Sets: lists of rows that came in, and the relations made of them. -/
namespace Go.Proofs.Ytepkmhcchmladaa
open Go.RowKit
set_option linter.unusedVariables false
set_option linter.unusedSimpArgs false

def NestArgs (w : World) (a : Option Addr) (A : List RV) : Prop := RRow w a A ∧ A.length ≤ maxLen ∧ ∀ x ∈ A, x.2.1.length ≤ maxLen
theorem width4 (x : Int) : ∃ wd : Nat, wd ≤ 3 ∧ wrap64 ((IntKind.u64.wrap x).tmod 4) = (wd : Int) := by
  have h1 : 0 ≤ IntKind.u64.wrap x := by simp [IntKind.wrap, IntKind.bits, IntKind.signed]; omega
  have h2 : (IntKind.u64.wrap x).tmod 4 = IntKind.u64.wrap x % 4 := Int.tmod_eq_emod_of_nonneg h1
  rw [h2]
  obtain ⟨y, hy⟩ : ∃ y, IntKind.u64.wrap x % 4 = y := ⟨_, rfl⟩
  have h3 : 0 ≤ y ∧ y < 4 := by omega
  rw [hy]
  exact ⟨y.toNat, by omega, by unfold wrap64; omega⟩
theorem width5 (x : Int) : ∃ wd : Nat, wd ≤ 4 ∧ wrap64 ((IntKind.u64.wrap x).tmod 5) = (wd : Int) := by
  have h1 : 0 ≤ IntKind.u64.wrap x := by simp [IntKind.wrap, IntKind.bits, IntKind.signed]; omega
  have h2 : (IntKind.u64.wrap x).tmod 5 = IntKind.u64.wrap x % 5 := Int.tmod_eq_emod_of_nonneg h1
  rw [h2]
  obtain ⟨y, hy⟩ : ∃ y, IntKind.u64.wrap x % 5 = y := ⟨_, rfl⟩
  have h3 : 0 ≤ y ∧ y < 5 := by omega
  rw [hy]
  exact ⟨y.toNat, by omega, by unfold wrap64; omega⟩
/-- Lists of lists of rows. -/
abbrev TV := Option Addr × List RV × Nat
def atT (T : List TV) (i : Nat) : TV := T[i]?.getD (none, [], 0)
theorem atT_eq {T : List TV} {i : Nat} (h : i < T.length) : atT T i = T[i] := by simp [atT, h]
theorem atT_mem {T : List TV} {i : Nat} (h : i < T.length) : atT T i ∈ T := by simp only [atT, List.getElem?_eq_getElem h, Option.getD_some]; exact List.getElem_mem h
structure TArgs (w : World) (a : Option Addr) (T : List TV) : Prop where
  cells : T = [] ∨ ∃ b off, a = some ⟨b, off, none⟩ ∧ b < w.heap.size ∧ ∀ i, i < T.length → w.cell? ⟨b, off + i, none⟩ = some (.slice (atT T i).1 (atT T i).2.1.length (atT T i).2.2)
  rows : ∀ x ∈ T, NestArgs w x.1 x.2.1
  len : T.length ≤ maxLen
theorem TArgs.at {w W : World} {B : Nat} {a : Option Addr} {T : List TV} (h : TArgs w a T) (hB : w.heap.size = B) (hb : Below B w W) {i : Nat} (hi : i < T.length) :
    ∃ b off, a = some ⟨b, off, none⟩ ∧ W.cell? ⟨b, off + i, none⟩ = some (.slice (atT T i).1 (atT T i).2.1.length (atT T i).2.2) := by
  rcases h.cells with h0 | ⟨b, off, ha, hlt, hc⟩
  · subst h0; simp at hi
  · exact ⟨b, off, ha, (hb.cell (p := ⟨b, off + i, none⟩) (by rw [← hB]; exact hlt)).trans (hc i hi)⟩
def AllF (T : List TV) (k : Nat) : Prop := (T.take k).all (fun x => fewB x.2.1) = true
def fewT (T : List TV) : Bool := (T.all fun x => fewB x.2.1) && decide (T.length ≤ 8)
set_option maxRecDepth 100000 in
set_option maxHeartbeats 1000000 in
theorem fewT_calls {w : World} {a : Option Addr} {T : List TV} (cap : Nat) (h : TArgs w a T) : Calls Try.prog 9 #[.slice a T.length cap] w fun e w' => e = .returned (.bool (fewT T)) ∧ w = w' := by
  have hm := h.len
  unfold maxLen at hm
  have H := Lib.hid h
  clear h
  go_enter Try.func9, Try.ntmps9
  go_wp2_with fail
  go_loopw [7] (fun s wr => ∃ k : Nat, k ≤ T.length ∧ s = .int .i64 k ∧ w = wr ∧ Hid (AllF T k)) (fun s _ => T.length - (intOf s).toNat)
  case atStart => exact ⟨0, Nat.zero_le _, rfl, rfl, Lib.hid rfl⟩
  case round =>
    obtain ⟨k, hk, rfl, rfl, HA⟩ := hrel
    by_cases hlt : k < T.length
    · obtain ⟨b, off, rfl, hc⟩ := H.out.at rfl (Below.refl _ _) hlt
      have hn := H.out.rows _ (atT_mem hlt)
      have cf := few_calls (atT T k).1 (atT T k).2.2 (atT T k).2.1 w hn.1 hn.2.1 hn.2.2
      have HK : Hid ((T.take (k + 1)).all (fun x => fewB x.2.1) = (((T.take k).all (fun x => fewB x.2.1)) && fewB (atT T k).2.1)) := Lib.hid (by rw [List.take_succ_eq_append_getElem hlt, List.all_append, atT_eq hlt]; simp)
      have HM := Lib.hid (atT_mem hlt)
      clear hn
      generalize atT T k = x at *
      obtain ⟨xa, xA, xc⟩ := x
      dsimp only at hc cf HK
      cases hf : fewB xA
      · rw [hf] at cf
        have HF := Lib.hid hf
        clear hf
        go_wp2_with fail
        refine cf.mono ?_
        rintro e w' ⟨rfl, rfl⟩
        go_wp2_with fail
        go_ret
        refine ⟨ret_b ?_, rfl⟩
        unfold fewT
        have : T.all (fun x => fewB x.2.1) = false := by
          rw [List.all_eq_false]; exact ⟨_, HM.out, by rw [HF.out]; simp⟩
        rw [this]; rfl
      · rw [hf] at cf
        have HF := Lib.hid hf
        clear hf
        go_wp2_with fail
        refine cf.mono ?_
        rintro e w' ⟨rfl, rfl⟩
        go_wp2_with fail
        go_roundw
        case rel => exact ⟨k + 1, by omega, by go_num, trivial, Lib.hid (by unfold AllF; rw [HK.out, show (T.take k).all (fun x => fewB x.2.1) = true from HA.out, HF.out]; rfl)⟩
        case measure => simp [intOf]; omega
    · obtain rfl : k = T.length := by omega
      have tl : decide ((T.length : Int) < (T.length : Int)) = false := decide_eq_false (by omega)
      have HR : Hid (fewT T = decide ((T.length : Int) ≤ 8)) := Lib.hid (by
        have h : (T.take T.length).all (fun x => fewB x.2.1) = true := HA.out
        rw [List.take_length] at h
        unfold fewT; rw [h, Bool.true_and]
        by_cases e : T.length ≤ 8
        · rw [decide_eq_true e, decide_eq_true (by omega)]
        · rw [decide_eq_false e, decide_eq_false (by omega)])
      go_wp2_with fail
      go_ret
      exact ⟨ret_b (by rw [HR.out]), by first | trivial | rfl⟩
theorem fewT_ok {T : List TV} (h : fewT T = true) : T.length ≤ 8 ∧ ∀ x ∈ T, x.2.1.length ≤ 60 ∧ ∀ y ∈ x.2.1, y.2.1.length ≤ 8 := by
  unfold fewT at h
  rw [Bool.and_eq_true, decide_eq_true_iff, List.all_eq_true] at h
  exact ⟨h.2, fun x hx => few_ok (h.1 x hx)⟩

/-- The relations of the lists, in order. -/
def setsOf (wd : Nat) (T : List TV) : List (List (List Int)) := T.map fun x => relOf (wd : Int) (x.2.1.map (·.2.1))
def SetsRet (w : World) (wd : Nat) (T : List TV) (e : Ending) (w' : World) : Prop :=
  ∃ (ad : Addr) (cap : Nat) (segs : List (Option Addr × List (List Int))), e = .returned (.slice (some ad) segs.length cap) ∧ segs.map Prod.snd = setsOf wd T ∧ PRow' w' (some ad) (segs.map Prod.fst) ∧ (∀ s ∈ segs, Seg w' s.1 wd s.2) ∧ Below w.heap.size w w'
/-- A relation that was made lies apart from the list that is under way. -/
def SegAt (wr : World) (u : Value) (wd : Nat) (s : Option Addr × List (List Int)) : Prop :=
  ∃ (L : Nat) (wk : World), (∀ W, Later L wk W → Seg W s.1 wd s.2) ∧ Later L wk wr ∧ ∀ b, u.ownBlock = some b → b < L ∨ wk.heap.size ≤ b
theorem SegAt.seg {wr : World} {u : Value} {wd : Nat} {s : Option Addr × List (List Int)} (h : SegAt wr u wd s) : Seg wr s.1 wd s.2 := by
  obtain ⟨L, wk, h1, h2, _⟩ := h; exact h1 _ h2
theorem SegAt.step {wr wr' : World} {u u' : Value} {wd : Nat} {s : Option Addr × List (List Int)} (h : SegAt wr u wd s) (hk : Keeps (fun b => u.ownBlock = some b) wr wr') (hu : ∀ b, u'.ownBlock = some b → u.ownBlock = some b ∨ wr.heap.size ≤ b) : SegAt wr' u' wd s := by
  obtain ⟨L, wk, h1, h2, h3⟩ := h
  refine ⟨L, wk, h1, ⟨Nat.le_trans h2.1 hk.size, fun k hk1 hk2 => ?_⟩, fun b hb => ?_⟩
  · rw [hk.block k (Nat.lt_of_lt_of_le hk2 h2.1) (fun e => by have := h3 k e; omega)]
    exact h2.2 k hk1 hk2
  · rcases hu b hb with h | h
    · exact h3 b h
    · exact .inr (Nat.le_trans h2.1 h)
set_option maxRecDepth 100000 in
set_option maxHeartbeats 2000000 in
theorem sets_calls {w : World} {a : Option Addr} {T : List TV} (wd cap : Nat) (h : TArgs w a T) (hwd : wd ≤ 1000) (hT : T.length ≤ 1000) (hf : ∀ x ∈ T, x.2.1.length ≤ 1000 ∧ ∀ y ∈ x.2.1, y.2.1.length ≤ 1000000) : Calls Try.prog 10 #[.int .i64 wd, .slice a T.length cap] w (SetsRet w wd T) := by
  obtain ⟨i1, hi', hz0', hz1', hz2'⟩ := info_parts info30
  have I' := Lib.hid hi'
  have Z0' := Lib.hid hz0'
  have Z1' := Lib.hid hz1'
  have Z2' := Lib.hid hz2'
  obtain ⟨B, hB⟩ : ∃ B, w.heap.size = B := ⟨_, rfl⟩
  have HB := Lib.hid hB
  have H := Lib.hid h
  have HF := Lib.hid hf
  clear hi' hz0' hz1' hz2' h hf
  have O1 : Hid ((w.alloc (.cells #[] 30)).ownsRow B 30 1 (.slice (some ⟨w.heap.size, 0, none⟩) 0 0) 0 []) := Lib.hid (World.ownsRow_lit (base := B) (e := 30) (size := 1) w #[] 0 (Nat.le_of_eq HB.out.symm) (by decide) rfl)
  have B1 := Lib.hid ((Below.refl B w).alloc (Nat.le_of_eq HB.out.symm) (.cells #[] 30))
  clear hB
  go_enter Try.func10, Try.ntmps10
  go_wp2_with fail
  generalize World.alloc w _ = w1 at *
  go_loopw [11, 5] (fun s v wr => ∃ (k : Nat) (segs : List (Option Addr × List (List Int))) (u : Value), k ≤ T.length ∧ s = .int .i64 k ∧ u = v ∧ Hid (segs.length = k) ∧ Hid (segs.map Prod.snd = setsOf wd (T.take k)) ∧ Hid (wr.ownsRow B 30 1 u segs.length ((segs.map Prod.fst).map Value.pointer)) ∧ Hid (∃ q n c, u = .slice (some q) n c) ∧ Hid (∀ s ∈ segs, SegAt wr u wd s) ∧ Hid (Below B w wr)) (fun s _ _ => T.length - (intOf s).toNat)
  case atStart => exact ⟨0, [], _, Nat.zero_le _, rfl, rfl, Lib.hid rfl, Lib.hid rfl, O1, Lib.hid ⟨_, _, _, rfl⟩, Lib.hid (fun s hs => by cases hs), B1⟩
  case round =>
    obtain ⟨k, segs, u, hk, rfl, rfl, HL, HM, HO, HU, HS, HBL⟩ := hrel
    by_cases hlt : k < T.length
    · obtain ⟨b, off, rfl, hc⟩ := H.out.at HB.out HBL.out hlt
      have hn := H.out.rows _ (atT_mem hlt)
      have hf := HF.out _ (atT_mem hlt)
      have cm := make_later wd (atT T k).1 (atT T k).2.2 (atT T k).2.1 wr (hn.1.belowB HB.out HBL.out) hwd hf.1 hf.2
      have HT : Hid (setsOf wd (T.take (k + 1)) = setsOf wd (T.take k) ++ [relOf wd ((atT T k).2.1.map (·.2.1))]) := Lib.hid (by unfold setsOf; rw [List.take_succ_eq_append_getElem hlt, List.map_append, atT_eq hlt]; rfl)
      clear hn hf
      generalize atT T k = x at *
      obtain ⟨xa, xA, xc⟩ := x
      dsimp only at hc cm HT
      go_wp2_with fail
      refine cm.mono ?_
      rintro e w3 ⟨q, rfl, hl, hb3⟩
      have ML := Lib.hid hl
      have B3 := Lib.hid hb3
      have HO3 : Hid (w3.ownsRow B 30 1 u segs.length ((segs.map Prod.fst).map Value.pointer)) := Lib.hid (owns_keeps (N := fun _ => False) HO.out (Keeps.of_below hb3) (fun _ _ h => h))
      have hsl : segs.length ≤ 1000 := by rw [HL.out]; omega
      have hB3 : B ≤ w3.heap.size := by have h1 := HBL.out.size; have h2 := hb3.size; rw [HB.out] at h1; omega
      obtain ⟨ua, un, uc, hu⟩ := HU.out
      subst hu
      have hun : un = segs.length := by
        obtain ⟨a9, c9, e9, _⟩ := prow_of_owns HO3.out
        simp at e9; omega
      subst hun
      clear cm hl hb3 hc
      go_wp2_with (first | (at_builtin; refine wpList_append_own_at _ rfl _ _ 26 rfl B 30 i1 (.pointer none) 1 8 Try.underlying26 I'.out Z0'.out Z1'.out Z2'.out rfl (by decide) _ _ _ rfl (HO3.out.alloc _) ⟨w3.heap.size, 0, none⟩ 1 1 [.pointer q] rfl rfl ?b1 ?b2 ?b3 ?b4 ?b5 ?_))
      case b1 => exact cell_one_new w3 _ _
      case b2 => intro u hu; simp at hu; subst hu; rfl
      case b3 => unfold maxLen; omega
      case b4 => omega
      case b5 => simp; omega
      intro v1 w7 hown hgrow hne hat
      have hown2 : w7.ownsRow B 30 1 v1 (segs ++ [(q, relOf wd (xA.map (·.2.1)))]).length (((segs ++ [(q, relOf wd (xA.map (·.2.1)))]).map Prod.fst).map Value.pointer) := by simpa using hown
      have hk7 : Keeps (fun b => (Value.slice (some ua) segs.length uc).ownBlock = some b) w3 w7 := ((Keeps.refl _ w3).alloc _).trans (Keeps.of_grown hgrow (fun b hb => hb))
      have hat2 : ∀ b, v1.ownBlock = some b → (Value.slice (some ua) segs.length uc).ownBlock = some b ∨ w3.heap.size ≤ b := fun b hb => by
        rcases hat with e | e
        · exact .inl (e ▸ hb)
        · rw [e] at hb; simp at hb; exact .inr (by omega)
      have N1 := Lib.hid hown2
      have N2 : Hid (∃ q n c, v1 = .slice (some q) n c) := Lib.hid (by
        obtain ⟨a9, c9, e9, _⟩ := prow_of_owns hown2
        cases a9 with
        | some a9 => exact ⟨a9, _, c9, e9⟩
        | none =>
          exfalso
          rcases hown2.2 with ⟨h0, _⟩ | ⟨r, cap, cur, hv, _⟩
          · exact hne h0
          · rw [e9] at hv; simp at hv)
      have N3 : Hid (∀ s ∈ segs ++ [(q, relOf wd (xA.map (·.2.1)))], SegAt w7 v1 wd s) := Lib.hid (fun s hs => by
        rcases List.mem_append.1 hs with hs | hs
        · have h9 := HS.out s hs
          have h8 : SegAt w3 (.slice (some ua) segs.length uc) wd s := h9.step ((Keeps.of_below B3.out).mono (fun _ _ h => h)) (fun b hb => .inl hb)
          exact h8.step hk7 hat2
        · obtain rfl := List.mem_singleton.1 hs
          refine SegAt.step (wr := w3) (u := .slice (some ua) segs.length uc) ⟨wr.heap.size, w3, ML.out, Later.refl _ _, fun b hb => .inl ?_⟩ hk7 hat2
          exact (HO.out.lt b hb).2)
      have N4 : Hid (Below B w w7) := Lib.hid ((HBL.out.trans (B3.out.mono (by have h1 := HBL.out.size; rw [HB.out] at h1; exact h1))).trans (hk7.below hB3 (fun b hb => (HO3.out.lt b hb).1)))
      clear hown hgrow hne hat hown2 hk7 hat2
      go_wp2_with fail
      go_roundw
      case rel => exact ⟨k + 1, _, _, by omega, by go_num, rfl, Lib.hid (by rw [List.length_append, HL.out]; rfl), Lib.hid (by rw [List.map_append, HM.out, HT.out]; rfl), N1, N2, N3, N4⟩
      case measure => simp [intOf]; omega
    · obtain rfl : k = T.length := by omega
      have tl : decide ((T.length : Int) < (T.length : Int)) = false := decide_eq_false (by omega)
      obtain ⟨a9, c9, e9, h9, hpr, _⟩ := prow_of_owns HO.out
      obtain ⟨q, n, c, e8⟩ := HU.out
      rw [e8] at e9
      obtain ⟨rfl, rfl, rfl⟩ : a9 = some q ∧ n = (segs.map Prod.fst).length ∧ c = c9 := by simp at e9; exact ⟨e9.1.symm, by simpa using e9.2.1, e9.2.2⟩
      have F : Hid (SetsRet w wd T (.returned (.slice (some q) ((segs.map Prod.fst)).length c)) wr) := Lib.hid ⟨q, c, segs, by rw [List.length_map], by rw [HM.out, List.take_length], hpr, fun s hs => (HS.out s hs).seg, by rw [HB.out]; exact HBL.out⟩
      clear hpr
      subst e8
      go_wp2_with fail
      go_ret
      exact F.out
end Go.Proofs.Ytepkmhcchmladaa
