/- Has and Set of a store. -/
import Derived.Test.YtepkmhcchmladaaSt13
namespace Go.Proofs.Ytepkmhcchmladaa
open Go.RowKit Go.Shelf Go.Maps
set_option linter.unusedVariables false
set_option linter.unusedSimpArgs false

set_option maxRecDepth 100000 in
set_option maxHeartbeats 2000000 in
theorem stHas_calls {N G : Nat → Prop} {w : World} {g wd : Nat} {most : Int} {runs : List (List (List Int))} {dl : List (List Int)} (h : StS N G w g wd most runs dl) (hwd : wd ≤ 100) (hn : runs.length ≤ 1000) (hT : runs.flatten.length ≤ 1000) (a : Option Addr) (cap : Nat) (qs : List Int) (hQ : Row w a qs) (hq : qs.length ≤ 1000000) :
    Calls Try.prog 41 #[.pointer (some ⟨g, 0, none⟩), .slice a qs.length cap] w (BelowB (decide (qs ∈ runs.flatten)) w) := by
  obtain ⟨segs, d, rv, kv, K, hk, hK, rfl, rfl, hnd, hne, hir⟩ := h
  rw [List.length_map] at hn
  rw [← flat_is] at hT ⊢
  obtain ⟨_, _, c2, _⟩ := hk.cells
  obtain ⟨ra, rc, hrv, hPR, _⟩ := hk.ptrs
  rw [hrv] at c2
  have hgl := (Array.getElem?_eq_some_iff.1 hk.blk).1
  have HS : Hid (∀ s ∈ segs, Seg w s.1 wd s.2) := Lib.hid (fun s hs => (hk.seg s hs).seg)
  have HPR := Lib.hid hPR
  have HQ := Lib.hid hQ
  clear hk hK hnd hne hir hrv hPR hQ
  go_enter Try.func41, Try.ntmps41
  go_wp2_with fail
  go_loopw [12] (fun s wr => ∃ k : Nat, k ≤ segs.length ∧ s = .int .i64 k ∧ Hid (Below w.heap.size w wr) ∧ Hid (qs ∉ flatR (segs.take k))) (fun s _ => segs.length - (intOf s).toNat)
  case atStart => exact ⟨0, Nat.zero_le _, rfl, Lib.hid (Below.refl _ _), Lib.hid (by simp [flatR])⟩
  case round =>
    obtain ⟨k, hk, rfl, HBW, HN⟩ := hrel
    by_cases hlt : k < segs.length
    · obtain ⟨rb, ro, rfl, hrb, hcs⟩ : ∃ rb ro, ra = some ⟨rb, ro, none⟩ ∧ rb < w.heap.size ∧ ∀ i, i < (segs.map Prod.fst).length → w.cell? ⟨rb, ro + i, none⟩ = some (.pointer ((segs.map Prod.fst)[i]?.getD none)) := by
        rcases HPR.out with h0 | ⟨b, off, h1, h2, h3⟩
        · have := congrArg List.length h0; rw [List.length_map] at this; have h9 : segs.length = 0 := this; omega
        · exact ⟨b, off, h1, h2, h3⟩
      have d0 : wr.cell? ⟨rb, ro + k, none⟩ = some (.pointer segs[k].1) := by
        rw [HBW.out.cell (p := ⟨rb, ro + k, none⟩) hrb, hcs k (by simpa using hlt)]; simp [hlt]
      have hl2 : segs[k].2.length ≤ (flatR segs).length := by rw [flat_split segs (k + 1), flat_take hlt, List.length_append, List.length_append]; omega
      have hin : qs ∈ segs[k].2 → qs ∈ flatR segs := fun h => by rw [flat_split segs (k + 1), flat_take hlt]; exact List.mem_append_left _ (List.mem_append_right _ h)
      have hout : qs ∉ segs[k].2 → qs ∉ flatR (segs.take (k + 1)) := fun h h2 => by
        rw [flat_take hlt] at h2
        rcases List.mem_append.1 h2 with h3 | h3
        · exact HN.out h3
        · exact h h3
      have ch := has_calls ((HS.out segs[k] (List.getElem_mem hlt)).below HBW.out) a cap qs (HQ.out.below HBW.out) hq (by omega) (by omega)
      have HIN := Lib.hid hin
      have HOUT := Lib.hid hout
      generalize segs[k] = sk at *
      clear hcs hrb hl2 hin hout HN
      by_cases hm : qs ∈ sk.2
      · rw [decide_eq_true hm] at ch
        have HM := Lib.hid (HIN.out hm)
        clear hm
        go_wp2_with fail
        refine ch.mono ?_
        rintro e w' ⟨rfl, hb⟩
        have F := Lib.hid (show BelowB (decide (qs ∈ flatR segs)) w (.returned (.bool true)) w' from ⟨by rw [decide_eq_true HM.out], HBW.out.trans (hb.mono HBW.out.size)⟩)
        clear hb ch
        go_wp2_with fail
        go_ret
        exact F.out
      · rw [decide_eq_false hm] at ch
        have HM := Lib.hid (HOUT.out hm)
        clear hm
        go_wp2_with fail
        refine ch.mono ?_
        rintro e w' ⟨rfl, hb⟩
        have HB2 := Lib.hid (HBW.out.trans (hb.mono HBW.out.size))
        clear hb ch
        go_wp2_with fail
        go_roundw
        case rel => exact ⟨k + 1, by omega, by go_num, HB2, HM⟩
        case measure => simp [intOf]; omega
    · obtain rfl : k = segs.length := by omega
      have tl : decide ((segs.length : Int) < (segs.length : Int)) = false := decide_eq_false (by omega)
      have F := Lib.hid (show BelowB (decide (qs ∈ flatR segs)) w (.returned (.bool false)) wr from ⟨by
        have := HN.out
        rw [List.take_length] at this
        rw [decide_eq_false this], HBW.out⟩)
      clear HN
      go_wp2_with fail
      go_ret
      exact F.out
/-- All is struck. -/
theorem StK.wipe {N G : Nat → Prop} {w : World} {g wd : Nat} {most : Int} {segs : List SP} {d : SP} {rv kv : Value} {K : List (List Int)} (h : StK N G w g wd most segs d rv kv K) :
    StK N G ((w.setCell ⟨g, 2, none⟩ (.slice none 0 0)).setCell ⟨g, 4, none⟩ (.map none)) g wd most [] d (.slice none 0 0) (.map none) [] ∧ Keeps (fun b => b = g) w ((w.setCell ⟨g, 2, none⟩ (.slice none 0 0)).setCell ⟨g, 4, none⟩ (.map none)) := by
  have k : Keeps (fun b => b = g) w ((w.setCell ⟨g, 2, none⟩ (.slice none 0 0)).setCell ⟨g, 4, none⟩ (.map none)) := ((Keeps.refl (fun b => b = g) w).setCell (p := ⟨g, 2, none⟩) rfl _).setCell (p := ⟨g, 4, none⟩) rfl _
  have kG : ∀ b, b = g → G b := fun b e => e ▸ h.sub _ h.gN
  have hg0 := h.blk
  exact ⟨⟨by simp [World.setCell, Array.getElem?_modify, hg0], World.ownsRow_nil _ _ _ _, fun s hs => (by cases hs), h.del.step k kG (fun b hb => .inl hb), .inl ⟨rfl, rfl⟩, h.gN, fun b hb => by simp [Value.ownBlock] at hb, h.sub, fun b hb => Nat.lt_of_lt_of_le (h.lt b hb) k.size⟩, k⟩
def setRuns (rows : List (List Int)) : List (List (List Int)) := if rows = [] then [] else [rows]
set_option maxRecDepth 100000 in
set_option maxHeartbeats 2000000 in
theorem stSet_calls {N G : Nat → Prop} {w : World} {g wd : Nat} {most : Int} {runs : List (List (List Int))} {dl : List (List Int)} (h : StS N G w g wd most runs dl) {s1 s2 : SP} (hs1 : SegN G w wd s1) (hs2 : SegN G w wd s2) (hwd : wd ≤ 100) (hT : s1.2.length ≤ 1000) (hsr : ∀ x ∈ s1.2, InRange x) :
    Calls Try.prog 39 #[.pointer (some ⟨g, 0, none⟩), .pointer s1.1, .pointer s2.1] w (StRet N G w g wd most (.tuple #[]) (setRuns s1.2) s2.2) := by
  obtain ⟨segs, d, rv, kv, K, hk, hK, rfl, rfl, hnd, hne, hir⟩ := h
  obtain ⟨hk1, hkk⟩ := hk.wipe
  have kG : ∀ b, b = g → G b := fun b e => e ▸ hk.sub _ hk.gN
  have h1 := hs1.step hkk kG (fun b hb => .inl hb)
  have h2 := hs2.step hkk kG (fun b hb => .inl hb)
  obtain ⟨_, _, c2, _, c4, f⟩ := hk.cells
  have f2 := f 2
  have f4 := f 4
  have K1 := Lib.hid hk1
  have KK := Lib.hid (hkk.mono (M := N) (fun b _ e => e ▸ hk.gN))
  have H1 := Lib.hid h1
  have H2 := Lib.hid h2
  have SB := Lib.hid hk.sub
  have NDD := Lib.hid (sorted_nodup hs1.seg.1)
  clear hk hK hnd hne hir hk1 hkk h1 h2 kG f hs1 hs2
  go_enter Try.func39, Try.ntmps39
  go_wp2_with fail
  generalize World.setCell (World.setCell w _ _) _ _ = w1 at *
  have co := own_calls K1.out H1.out (by omega)
  unfold OwnRet at co
  rw [if_pos rfl] at co
  clear c2 c4 f2 f4
  refine co.mono ?_
  rintro e w2 ⟨q1, rfl, hq1, hb1⟩
  have K2 := Lib.hid (K1.out.below hb1)
  have Q1 := Lib.hid hq1
  have P2 := Lib.hid (H2.out.below hb1)
  have KK2 := Lib.hid (KK.out.trans (Keeps.of_below hb1))
  clear hq1 hb1 co K1 H1 H2 KK
  have cl := segLen_calls Q1.out.seg
  dsimp only at cl
  go_wp2_with fail
  refine cl.mono ?_
  rintro e w' ⟨rfl, rfl⟩
  clear cl
  by_cases h0 : s1.2 = []
  · have tz : decide ((0 : Int) < (s1.2.length : Int)) = false := by rw [h0]; rfl
    have tz2 : decide (0 < s1.2.length) = false := by rw [h0]; rfl
    have H0 := Lib.hid h0
    clear h0
    have co2 := own_calls K2.out P2.out (by omega)
    unfold OwnRet at co2
    rw [if_pos rfl] at co2
    go_wp2_with fail
    refine co2.mono ?_
    rintro e w5 ⟨q2, rfl, hq2, hb5⟩
    have hk5 := K2.out.below hb5
    obtain ⟨hk6, hkk6⟩ := hk5.delta hq2
    obtain ⟨_, _, _, d3, _, f⟩ := hk5.cells
    have f3 := f 3
    have F := Lib.hid (show StRet N G w g wd most (.tuple #[]) (setRuns s1.2) s2.2 (.returned (.tuple #[])) (w5.setCell ⟨g, 3, none⟩ (.pointer q2)) from by
      have hr : setRuns s1.2 = [] := by unfold setRuns; rw [if_pos H0.out]
      refine ⟨rfl, N, fun _ h => h, fun _ h => .inl h, ⟨[], (q2, s2.2), _, _, [], by rw [or_sub hk6.sub]; exact hk6, .inl rfl, by rw [hr]; rfl, rfl, by rw [hr]; exact List.nodup_nil, by rw [hr]; exact (fun r h9 => by cases h9), by rw [hr]; exact (fun r h9 => by cases h9)⟩, (KK2.out.trans (Keeps.of_below hb5)).later hkk6 (fun b e => .inl (e ▸ hk5.gN))⟩
    )
    clear co2 hq2 hb5 hk5 hk6 hkk6 f
    go_wp2_with fail
    go_end0
    exact F.out
  · have tz : decide ((0 : Int) < (s1.2.length : Int)) = true := decide_eq_true (by have := List.length_pos_iff.2 h0; omega)
    have tz2 : decide (0 < s1.2.length) = true := decide_eq_true (List.length_pos_iff.2 h0)
    have H0 := Lib.hid h0
    clear h0
    have hown := World.ownsRow_lit (base := 0) (e := 30) (size := 1) w2 #[.pointer q1] 1 (Nat.zero_le _) (by decide) rfl
    have hL := K2.out.list (w2 := w2.alloc (.cells #[.pointer q1] 30)) (segs' := [(q1, s1.2)]) (rv' := .slice (some ⟨w2.heap.size, 0, none⟩) 1 1) ((Keeps.refl _ w2).alloc _) hown (fun s hs => by obtain rfl := List.mem_singleton.1 hs; exact Q1.out) (fun b hb => by simp [Value.ownBlock] at hb; exact .inr (by omega))
    have hgl := (Array.getElem?_eq_some_iff.1 K2.out.blk).1
    have e2 : (w2.alloc (.cells #[.pointer q1] 30)).cell? ⟨g, 2, none⟩ = some (.slice none 0 0) := by
      rw [((Below.refl w2.heap.size w2).alloc (Nat.le_refl _) _).cell (p := ⟨g, 2, none⟩) hgl]; exact K2.out.cells.2.2.1
    have e3 : (w2.alloc (.cells #[.pointer q1] 30)).frozen? ⟨g, 2, none⟩ = false := by
      have := (Below.heap_alloc w2 (.cells #[.pointer q1] 30) g hgl).trans K2.out.blk
      simp [World.frozen?, this]
    have K3 := Lib.hid hL.1
    have KK3 := Lib.hid (KK2.out.later hL.2 (fun b hb => .inl hb))
    have NG : Hid (∀ b, (N b ∨ (Value.slice (some ⟨w2.heap.size, 0, none⟩) 1 1).ownBlock = some b) → N b ∨ w.heap.size ≤ b) := Lib.hid (fun b hb => by
      rcases hb with h | h
      · exact .inl h
      · simp [Value.ownBlock] at h
        have := KK2.out.size
        exact .inr (by omega))
    have P3 := Lib.hid (P2.out.step (G' := fun b => G b ∨ (N b ∨ (Value.slice (some ⟨w2.heap.size, 0, none⟩) 1 1).ownBlock = some b)) hL.2 SB.out (fun b hb => by
      rcases hb with h | h | h
      · exact .inl h
      · exact .inl (SB.out b h)
      · simp [Value.ownBlock] at h; exact .inr (by omega)))
    clear hown hL P2 KK2 K2 Q1 hgl
    go_wp2_with fail
    clear e2 e3
    generalize World.setCell _ _ _ = w3 at *
    have co2 := own_calls K3.out P3.out (by omega)
    unfold OwnRet at co2
    rw [if_pos rfl] at co2
    go_wp2_with fail
    refine co2.mono ?_
    rintro e w5 ⟨q2, rfl, hq2, hb5⟩
    have hk5 := K3.out.below hb5
    obtain ⟨hk6, hkk6⟩ := hk5.delta hq2
    obtain ⟨_, _, _, d3, _, f⟩ := hk5.cells
    have f3 := f 3
    have F := Lib.hid (show StRet N G w g wd most (.tuple #[]) (setRuns s1.2) s2.2 (.returned (.tuple #[])) (w5.setCell ⟨g, 3, none⟩ (.pointer q2)) from by
      have hr : setRuns s1.2 = [s1.2] := by unfold setRuns; rw [if_neg H0.out]
      have hfl : [s1.2].flatten = s1.2 := by simp
      refine ⟨rfl, _, fun _ h => .inl h, NG.out, ⟨[(q1, s1.2)], (q2, s2.2), _, _, [], hk6, .inl rfl, by rw [hr]; rfl, rfl, by rw [hr, hfl]; exact NDD.out, by rw [hr]; intro r hr; obtain rfl := List.mem_singleton.1 hr; exact H0.out, by rw [hr, hfl]; exact hsr⟩, (KK3.out.trans (Keeps.of_below hb5)).later hkk6 (fun b e => NG.out b (e ▸ hk5.gN))⟩
    )
    clear co2 hq2 hb5 hk5 hk6 hkk6 f
    go_wp2_with fail
    go_end0
    exact F.out
end Go.Proofs.Ytepkmhcchmladaa
