import Derived.Test.YtepkmhcchmladaaSt6
/- A store as it is told: its runs, its last rows. Compact. -/
namespace Go.Proofs.Ytepkmhcchmladaa
open Go.RowKit Go.Shelf Go.Maps
set_option linter.unusedVariables false
set_option linter.unusedSimpArgs false

/-- The delta is stored. -/
theorem StK.delta {N G : Nat → Prop} {w : World} {g wd : Nat} {most : Int} {segs : List SP} {d : SP} {rv kv : Value} {K : List (List Int)} (h : StK N G w g wd most segs d rv kv K) {q : Option Addr} {rows : List (List Int)} (hq : SegN G w wd (q, rows)) :
    StK N G (w.setCell ⟨g, 3, none⟩ (.pointer q)) g wd most segs (q, rows) rv kv K ∧ Keeps (fun b => b = g) w (w.setCell ⟨g, 3, none⟩ (.pointer q)) := by
  have gl := (Array.getElem?_eq_some_iff.1 h.blk).1
  have k : Keeps (fun b => b = g) w (w.setCell ⟨g, 3, none⟩ (.pointer q)) := (Keeps.refl (fun b => b = g) w).setCell (p := ⟨g, 3, none⟩) rfl _
  have kG : ∀ b, b = g → G b := fun b e => e ▸ h.sub _ h.gN
  have hg0 := h.blk
  refine ⟨⟨by simp [World.setCell, Array.getElem?_modify, hg0], owns_keeps h.runs k (fun b hb e => own_ne_cells h.runs h.blk (by decide) (e ▸ hb)), fun s hs => (h.seg s hs).step k kG (fun b hb => .inl hb), hq.step k kG (fun b hb => .inl hb), ?_, h.gN, h.rN, h.sub, fun b hb => Nat.lt_of_lt_of_le (h.lt b hb) k.size⟩, k⟩
  rcases h.known with h1 | ⟨b, D, h1, h2, h3, h4⟩
  · exact .inl h1
  · exact .inr ⟨b, D, h1, h2, map_keeps h3 k (fun e => cells_ne_map h.blk h3 e.symm), h4⟩
/-- The list of runs is stored. -/
theorem StK.list {N G : Nat → Prop} {w w2 : World} {g wd : Nat} {most : Int} {segs segs' : List SP} {d : SP} {rv rv' kv : Value} {K : List (List Int)} (h : StK N G w g wd most segs d rv kv K) (hk : Keeps (fun b => rv.ownBlock = some b) w w2) (hown : w2.ownsRow 0 30 1 rv' segs'.length ((segs'.map Prod.fst).map Value.pointer)) (hs : ∀ s ∈ segs', SegN G w wd s) (ho : ∀ b, rv'.ownBlock = some b → rv.ownBlock = some b ∨ w.heap.size ≤ b) :
    StK (fun b => N b ∨ rv'.ownBlock = some b) (fun b => G b ∨ (N b ∨ rv'.ownBlock = some b)) (w2.setCell ⟨g, 2, none⟩ rv') g wd most segs' d rv' kv K ∧ Keeps N w (w2.setCell ⟨g, 2, none⟩ rv') := by
  have gl := (Array.getElem?_eq_some_iff.1 h.blk).1
  have kk : Keeps (fun b => b = g ∨ rv.ownBlock = some b) w (w2.setCell ⟨g, 2, none⟩ rv') := (hk.mono (fun b _ e => .inr e)).setCell (p := ⟨g, 2, none⟩) (.inl rfl) _
  have k : Keeps N w (w2.setCell ⟨g, 2, none⟩ rv') := kk.mono (fun b _ e => by
    rcases e with e | e
    · exact e ▸ h.gN
    · exact h.rN b e)
  have hg0 : w2.heap[g]? = _ := (hk.block g gl (own_ne_cells h.runs h.blk (by decide))).trans h.blk
  have kg : Keeps (fun b => b = g) w2 (w2.setCell ⟨g, 2, none⟩ rv') := (Keeps.refl (fun b => b = g) w2).setCell (p := ⟨g, 2, none⟩) rfl _
  have hGG : ∀ b, (G b ∨ (N b ∨ rv'.ownBlock = some b)) → G b ∨ w.heap.size ≤ b := fun b hb => by
    rcases hb with h1 | h1 | h1
    · exact .inl h1
    · exact .inl (h.sub b h1)
    · rcases ho b h1 with h2 | h2
      · exact .inl (h.sub b (h.rN b h2))
      · exact .inr h2
  have hsz : (w2.setCell ⟨g, 2, none⟩ rv').heap.size = w2.heap.size := by simp [World.setCell]
  refine ⟨⟨by simp [World.setCell, Array.getElem?_modify, hg0], owns_keeps hown kg (fun b hb e => own_ne_cells hown hg0 (by decide) (e ▸ hb)), fun s hs' => (hs s hs').step k h.sub hGG, h.del.step k h.sub hGG, ?_, .inl h.gN, fun b hb => .inr hb, fun b hb => .inr hb, fun b hb => ?_⟩, k⟩
  · rcases h.known with h1 | ⟨b, D, h1, h2, h3, h4⟩
    · exact .inl h1
    · refine .inr ⟨b, D, h1, .inl h2, map_keeps h3 kk (fun e => ?_), h4⟩
      rcases e with e | e
      · exact cells_ne_map h.blk h3 e.symm
      · exact own_ne_map h.runs h3 e
  · rw [hsz]
    rcases hb with h1 | h1 | h1
    · exact Nat.lt_of_lt_of_le (h.lt b h1) hk.size
    · exact Nat.lt_of_lt_of_le (h.lt b (h.sub b h1)) hk.size
    · exact (hown.lt b h1).2
/-- A store: its runs, its last rows. -/
def StS (N G : Nat → Prop) (w : World) (g wd : Nat) (most : Int) (runs : List (List (List Int))) (dl : List (List Int)) : Prop :=
  ∃ segs d rv kv K, StK N G w g wd most segs d rv kv K ∧ (kv = .map none ∨ K.Perm (flatR segs)) ∧ segs.map Prod.snd = runs ∧ d.2 = dl ∧ runs.flatten.Nodup ∧ (∀ r ∈ runs, r ≠ []) ∧ ∀ x ∈ runs.flatten, InRange x
theorem flat_is (segs : List SP) : flatR segs = (segs.map Prod.snd).flatten := by unfold flatR; exact List.flatMap_def
theorem StK.widths {N G : Nat → Prop} {w : World} {g wd : Nat} {most : Int} {segs : List SP} {d : SP} {rv kv : Value} {K : List (List Int)} (h : StK N G w g wd most segs d rv kv K) : ∀ r ∈ flatR segs, r.length = wd := fun r hr => by
  obtain ⟨s, hs, h2⟩ := List.mem_flatMap.1 hr
  exact (h.seg s hs).seg.2.1 _ h2
theorem StS.keeps {N G G' M : Nat → Prop} {w w' : World} {g wd : Nat} {most : Int} {runs : List (List (List Int))} {dl : List (List Int)} (h : StS N G w g wd most runs dl) (hk : Keeps M w w') (hMG : ∀ b, M b → G b) (hMN : ∀ b, M b → ¬ N b) (hG : ∀ b, G' b → G b ∨ w.heap.size ≤ b) (hN : ∀ b, N b → G' b) (hlt : ∀ b, G' b → b < w'.heap.size) : StS N G' w' g wd most runs dl := by
  obtain ⟨segs, d, rv, kv, K, h1, h2⟩ := h
  exact ⟨segs, d, rv, kv, K, h1.keeps hk hMG hMN hG hN hlt, h2⟩
theorem StS.below {N G : Nat → Prop} {w w' : World} {g wd : Nat} {most : Int} {runs : List (List (List Int))} {dl : List (List Int)} (h : StS N G w g wd most runs dl) (hb : Below w.heap.size w w') : StS N G w' g wd most runs dl := by
  obtain ⟨segs, d, rv, kv, K, h1, h2⟩ := h
  exact ⟨segs, d, rv, kv, K, h1.below hb, h2⟩
/-- What a method leaves. -/
def StRet (N G : Nat → Prop) (w : World) (g wd : Nat) (most : Int) (v : Value) (runs : List (List (List Int))) (dl : List (List Int)) (e : Ending) (w' : World) : Prop :=
  e = .returned v ∧ ∃ N', (∀ b, N b → N' b) ∧ (∀ b, N' b → N b ∨ w.heap.size ≤ b) ∧ StS N' (fun b => G b ∨ N' b) w' g wd most runs dl ∧ Keeps N w w'
def compactR (wd : Nat) (runs : List (List (List Int))) : List (List (List Int)) := if 1 < runs.length then [relOf (wd : Int) runs.flatten] else runs
theorem join_perm {wd : Nat} {T : List (List Int)} (hl : ∀ r ∈ T, r.length = wd) (hn : T.Nodup) : (relOf (wd : Int) T).Perm T := by
  have := rel_perm wd T [] hl (fun r _ h => by cases h) hn
  rw [List.append_nil] at this
  exact this
theorem or_sub {N G : Nat → Prop} (h : ∀ b, N b → G b) : (fun b => G b ∨ N b) = G := by
  funext b
  exact propext ⟨fun h9 => by
    rcases h9 with h9 | h9
    · exact h9
    · exact h b h9, .inl⟩
set_option maxRecDepth 100000 in
set_option maxHeartbeats 2000000 in
theorem stCompact_calls {N G : Nat → Prop} {w : World} {g wd : Nat} {most : Int} {runs : List (List (List Int))} {dl : List (List Int)} (h : StS N G w g wd most runs dl) (hwd : wd ≤ 100) (hn : runs.length ≤ 1000) (hT : runs.flatten.length ≤ 1000) :
    Calls Try.prog 22 #[.pointer (some ⟨g, 0, none⟩)] w (StRet N G w g wd most (.tuple #[]) (compactR wd runs) dl) := by
  obtain ⟨segs, d, rv, kv, K, hk, hK, rfl, rfl, hnd, hne, hir⟩ := h
  have HF := Lib.hid (flat_is segs)
  rw [List.length_map] at hn
  rw [← flat_is] at hT hnd hir
  obtain ⟨_, _, c2, _⟩ := hk.cells
  obtain ⟨a, cap, hrv, _⟩ := hk.ptrs
  rw [hrv] at c2
  by_cases h1 : 1 < segs.length
  · have t1 : decide ((1 : Int) < (segs.length : Int)) = true := decide_eq_true (by omega)
    have hc : compactR wd (segs.map Prod.snd) = [fullR wd segs] := by
      unfold compactR
      rw [if_pos (by rw [List.length_map]; exact h1), ← flat_is]; rfl
    have cf := full_calls hk (by omega) hT hn
    have HK := Lib.hid hk
    have HKP := Lib.hid hK
    have HC := Lib.hid hc
    have HP := Lib.hid (join_perm hk.widths hnd)
    have HIR := Lib.hid hir
    have HNE := Lib.hid hne
    have H1 := Lib.hid h1
    have hgl := (Array.getElem?_eq_some_iff.1 hk.blk).1
    clear hk hK hc hnd hir hne h1 hrv
    go_enter Try.func22, Try.ntmps22
    go_wp2_with fail
    refine cf.mono ?_
    rintro e w2 ⟨q, rfl, hq, hb⟩
    have hk2 := HK.out.below hb
    have hown := World.ownsRow_lit (base := 0) (e := 30) (size := 1) w2 #[.pointer q] 1 (Nat.zero_le _) (by decide) rfl
    have hL := hk2.list (w2 := w2.alloc (.cells #[.pointer q] 30)) (segs' := [(q, fullR wd segs)]) (rv' := .slice (some ⟨w2.heap.size, 0, none⟩) 1 1) ((Keeps.refl _ w2).alloc _) hown (fun s hs => by obtain rfl := List.mem_singleton.1 hs; exact hq) (fun b hb => by simp [Value.ownBlock] at hb; exact .inr (by omega))
    have F := Lib.hid (show StRet N G w g wd most (.tuple #[]) (compactR wd (segs.map Prod.snd)) d.2 (.returned (.tuple #[])) ((w2.alloc (.cells #[.pointer q] 30)).setCell ⟨g, 2, none⟩ (.slice (some ⟨w2.heap.size, 0, none⟩) 1 1)) by
      refine ⟨rfl, _, fun b hb => .inl hb, fun b hb' => ?_, ⟨[(q, fullR wd segs)], d, _, kv, K, hL.1, ?_, by rw [HC.out]; rfl, rfl, ?_, ?_, ?_⟩, (Keeps.of_below hb).trans hL.2⟩
      · rcases hb' with h3 | h3
        · exact .inl h3
        · simp [Value.ownBlock] at h3
          have := hb.size
          exact .inr (by omega)
      · rcases HKP.out with h3 | h3
        · exact .inl h3
        · refine .inr (h3.trans ?_)
          have : flatR [(q, fullR wd segs)] = fullR wd segs := by unfold flatR; simp
          rw [this]; exact HP.out.symm
      · rw [HC.out, List.flatten_cons, List.flatten_nil, List.append_nil]
        exact List.Pairwise.imp (fun h e => by rw [e, cmpR_self] at h; omega) (rel_sorted _ _)
      · rw [HC.out]
        intro r hr
        obtain rfl := List.mem_singleton.1 hr
        intro h0
        have h3 := HP.out.length_eq
        unfold fullR at h0
        have h4 : relOf (wd : Int) (flatR segs) = [] := h0
        rw [h4] at h3
        have h5 : flatR segs = [] := List.eq_nil_of_length_eq_zero h3.symm
        obtain ⟨s, hs⟩ : ∃ s, s ∈ segs := ⟨segs[0]'(by have := H1.out; omega), List.getElem_mem _⟩
        have h6 := HNE.out s.2 (List.mem_map_of_mem hs)
        obtain ⟨y, hy⟩ := List.exists_mem_of_ne_nil _ h6
        have : y ∈ flatR segs := List.mem_flatMap.2 ⟨s, hs, hy⟩
        rw [h5] at this; cases this
      · rw [HC.out, List.flatten_cons, List.flatten_nil, List.append_nil]
        exact fun x hx => HIR.out x (HP.out.mem_iff.1 hx))
    have e2 : (w2.alloc (.cells #[.pointer q] 30)).cell? ⟨g, 2, none⟩ = some rv := by
      rw [((Below.refl w2.heap.size w2).alloc (Nat.le_refl _) _).cell (p := ⟨g, 2, none⟩) (Nat.lt_of_lt_of_le hgl hb.size)]; exact hk2.cells.2.2.1
    have e3 : (w2.alloc (.cells #[.pointer q] 30)).frozen? ⟨g, 2, none⟩ = false := by
      have := ((Below.heap_alloc w2 (.cells #[.pointer q] 30) g (Nat.lt_of_lt_of_le hgl hb.size))).trans hk2.blk
      simp [World.frozen?, this]
    clear hq hb hk2 hown hL cf
    go_wp2_with fail
    go_end0
    exact F.out
  · have t1 : decide ((1 : Int) < (segs.length : Int)) = false := decide_eq_false (by omega)
    have hc : compactR wd (segs.map Prod.snd) = segs.map Prod.snd := by
      unfold compactR
      rw [if_neg (by rw [List.length_map]; exact h1)]
    have F := Lib.hid (show StRet N G w g wd most (.tuple #[]) (compactR wd (segs.map Prod.snd)) d.2 (.returned (.tuple #[])) w from
      ⟨rfl, N, fun _ h => h, fun _ h => .inl h, ⟨segs, d, rv, kv, K, by rw [or_sub hk.sub]; exact hk, hK, hc.symm, rfl, by rw [hc, ← flat_is]; exact hnd, by rw [hc]; exact hne, by rw [hc, ← flat_is]; exact hir⟩, Keeps.refl _ _⟩)
    clear hk hK hnd hir hne hc h1 hrv
    go_enter Try.func22, Try.ntmps22
    go_wp2_with fail
    go_end0
    exact F.out
end Go.Proofs.Ytepkmhcchmladaa

/- Step. -/
namespace Go.Proofs.Ytepkmhcchmladaa
open Go.RowKit Go.Shelf Go.Maps
set_option linter.unusedVariables false
set_option linter.unusedSimpArgs false

theorem StRet.after {N N1 G : Nat → Prop} {w W : World} {g wd : Nat} {most : Int} {v : Value} {runs : List (List (List Int))} {dl : List (List Int)} {e : Ending} {w' : World} (hN : ∀ b, N b → N1 b) (hN2 : ∀ b, N1 b → N b ∨ w.heap.size ≤ b) (hk : Keeps N w W) (h : StRet N1 (fun b => G b ∨ N1 b) W g wd most v runs dl e w') : StRet N G w g wd most v runs dl e w' := by
  obtain ⟨he, N', h1, h2, h3, h4⟩ := h
  have hge : (fun b => (G b ∨ N1 b) ∨ N' b) = fun b => G b ∨ N' b := by
    funext b
    exact propext ⟨fun h => by
      rcases h with (h | h) | h
      · exact .inl h
      · exact .inr (h1 b h)
      · exact .inr h, fun h => by
      rcases h with h | h
      · exact .inl (.inl h)
      · exact .inr h⟩
  rw [hge] at h3
  refine ⟨he, N', fun b hb => h1 b (hN b hb), fun b hb => ?_, h3, hk.later h4 hN2⟩
  rcases h2 b hb with h | h
  · exact hN2 b h
  · exact .inr (Nat.le_trans hk.size h)
/-- The delta is appended to the runs. -/
theorem StK.push {N G : Nat → Prop} {w : World} {g wd : Nat} {most : Int} {segs : List SP} {d : SP} {rv kv : Value} {K : List (List Int)} (h : StK N G w g wd most segs d rv kv K) (hn : segs.length ≤ 1000) (q : Option Addr) :
    ∃ av cap w2, (appM #[26, 26] 26 #[rv, .slice (some ⟨w.heap.size, 0, none⟩) 1 1]).run Try.prog (w.alloc (.cells #[.pointer q] 30)).drew = .ok (.slice av (segs.length + 1) cap) w2 ∧ w2.cell? ⟨g, 2, none⟩ = some rv ∧ w2.frozen? ⟨g, 2, none⟩ = false ∧
      Hid (Keeps (fun b => rv.ownBlock = some b) w w2) ∧ Hid (w2.ownsRow 0 30 1 (.slice av (segs.length + 1) cap) (segs.length + 1) ((segs.map Prod.fst).map Value.pointer ++ [.pointer q])) ∧ Hid (∀ b, (Value.slice av (segs.length + 1) cap).ownBlock = some b → rv.ownBlock = some b ∨ w.heap.size ≤ b) := by
  obtain ⟨i0, hi, hz0, hz1, hz2⟩ := info_parts info30
  have bd : Below w.heap.size w w.drew := below_drewN (Below.refl _ w) 1
  have sd : w.drew.heap.size = w.heap.size := rfl
  have hown := (owns_keeps h.runs (Keeps.of_below (N := fun _ => False) bd) (fun b _ h => h)).alloc (.cells #[.pointer q] 30)
  have k1 : Keeps (fun b => rv.ownBlock = some b) w (w.drew.alloc (.cells #[.pointer q] 30)) := (Keeps.of_below bd).alloc _
  obtain ⟨av, cap, w2, hr, hown2, hgrow, hat⟩ := run_append_any (P := Try.prog) (w.drew.alloc (.cells #[.pointer q] 30)) 26 26 0 30 i0 (.pointer none) 1 8 Try.underlying26 hi hz0 hz1 hz2 rfl (by decide) rv segs.length _ hown ⟨w.heap.size, 0, none⟩ 1 1 [.pointer q] rfl (cell_one_new w.drew _ _) (fun u hu => by simp at hu; subst hu; rfl) (by unfold maxLen; omega) (by omega) (Nat.zero_le _)
  have k2 := k1.trans (Keeps.of_grown hgrow (fun b hb => hb))
  have gl := (Array.getElem?_eq_some_iff.1 h.blk).1
  have obj2 := (k2.block g gl (own_ne_cells h.runs h.blk (by decide))).trans h.blk
  refine ⟨av, cap, w2, hr, by simp [World.cell?, obj2], by simp [World.frozen?, obj2], Lib.hid k2, Lib.hid hown2, Lib.hid (fun b hb => ?_)⟩
  rcases hat with e | e
  · exact .inl (e ▸ hb)
  · rw [e] at hb
    simp at hb
    exact .inr (by rw [← hb]; simp [sd])
def newR (wd : Nat) (runs : List (List (List Int))) (wd' : Nat) (rows : List (List Int)) : List (List Int) := minusR (if wd' = wd then rows else []) runs.flatten
def stepRuns (wd : Nat) (most : Int) (runs : List (List (List Int))) (new : List (List Int)) : List (List (List Int)) :=
  if new = [] then runs else if 0 < most ∧ most < (runs.length : Int) + 1 then compactR wd (runs ++ [new]) else runs ++ [new]
attribute [local go_sem ↓] app_rule
set_option maxRecDepth 100000 in
set_option maxHeartbeats 4000000 in
theorem stStep_calls {N G : Nat → Prop} {w : World} {g wd : Nat} {most : Int} {runs : List (List (List Int))} {dl : List (List Int)} (h : StS N G w g wd most runs dl) {wd' : Nat} {s : SP} (hs : SegN G w wd' s) (hwd : wd ≤ 100) (hn : runs.length ≤ 900) (hT : runs.flatten.length + s.2.length ≤ 1000) (hsr : ∀ x ∈ s.2, InRange x) (hss : s.2.Nodup) :
    Calls Try.prog 21 #[.pointer (some ⟨g, 0, none⟩), .pointer s.1] w (StRet N G w g wd most (.int .i64 (newR wd runs wd' s.2).length) (stepRuns wd most runs (newR wd runs wd' s.2)) (newR wd runs wd' s.2)) := by
  obtain ⟨segs, d, rv, kv, K, hk, hK, rfl, rfl, hnd, hne, hir⟩ := h
  unfold newR
  rw [List.length_map] at hn
  have HND := Lib.hid hnd
  have HNE := Lib.hid hne
  have HIR := Lib.hid hir
  have co := own_calls hk hs (by omega)
  obtain ⟨rs, hrs⟩ : ∃ rs, (if wd' = wd then s.2 else []) = rs := ⟨_, rfl⟩
  have hrl : rs.length ≤ s.2.length := by rw [← hrs]; split <;> simp
  have hri : ∀ x ∈ rs, InRange x := by
    rw [← hrs]; split
    · exact hsr
    · intro x hx; cases hx
  have hrn : rs.Nodup := by
    rw [← hrs]; split
    · exact hss
    · exact List.nodup_nil
  unfold OwnRet at co
  rw [hrs] at co ⊢
  rw [← flat_is] at hT hnd hir ⊢
  have CL : Hid (∀ W q, Below w.heap.size w W → SegN G W wd (q, rs) → Calls Try.prog 49 #[.pointer (some ⟨g, 0, none⟩), .pointer q] W (LearnRet N G W g wd most segs d rv (flatR segs) rs)) := Lib.hid (fun W q hb hq => learn_calls (hk.below hb) hK (s := (q, rs)) hq hwd (by omega) (by omega) hnd (by show rs.length ≤ 1000; omega) hir hri)
  have hnl : (minusR rs (flatR segs)).length ≤ rs.length := List.length_filter_le ..
  have HNN : Hid (minusR rs (flatR segs)).Nodup := Lib.hid (hrn.sublist List.filter_sublist)
  have HNR : Hid (∀ x ∈ minusR rs (flatR segs), InRange x ∧ x ∉ flatR segs) := Lib.hid (fun x hx => ⟨hri x ((mem_minus _ _ _).1 hx).1, ((mem_minus _ _ _).1 hx).2⟩)
  obtain ⟨new, hnew⟩ : ∃ new, minusR rs (flatR segs) = new := ⟨_, rfl⟩
  have HNEW := Lib.hid hnew
  rw [hnew] at hnl HNN HNR ⊢
  clear hk hK hs hsr hss hri hrn hnd hne hir hrs hnew
  go_enter Try.func21, Try.ntmps21
  go_wp2_with fail
  refine co.mono ?_
  rintro e w1 ⟨q1, rfl, hq1, hb1⟩
  have cl := CL.out w1 q1 hb1 hq1
  have B1 := Lib.hid hb1
  clear co CL hq1 hb1
  go_wp2_with fail
  refine cl.mono ?_
  rintro e w2 ⟨q, mb, N', K', rfl, hp, hn1, hn2, hst, hsg, hkp⟩
  rw [HNEW.out] at hp hsg
  obtain ⟨hst3, hk3⟩ := hst.delta hsg
  obtain ⟨_, _, _, d3, _, f3⟩ := hst.cells
  have f3' := f3 3
  have HST := Lib.hid hst3
  have HKP := Lib.hid ((Keeps.of_below B1.out).trans hkp)
  have HN1 := Lib.hid hn1
  have HN2 : Hid (∀ b, N' b → N b ∨ w.heap.size ≤ b) := Lib.hid (fun b hb => by
    rcases hn2 b hb with h | h
    · exact .inl h
    · exact .inr (Nat.le_trans B1.out.size h))
  have HK3 : Hid (Keeps N w (w2.setCell ⟨g, 3, none⟩ (.pointer q))) := Lib.hid (HKP.out.later hk3 (fun b e => HN2.out b (e ▸ hst.gN)))
  have HP := Lib.hid hp
  have cn := segLen_calls hst3.del.seg
  have e3 := hst3.cells.2.2.2.1
  dsimp only at e3 cn
  clear hst hsg hkp hk3 hst3 hp hn1 hn2 cl f3 HKP
  go_wp2_with fail
  generalize World.setCell w2 _ _ = W3 at *
  go_wp2_with fail
  refine cn.mono ?_
  rintro e w' ⟨rfl, rfl⟩
  by_cases h0 : new = []
  · have tz : ((new.length : Int) == 0) = true := by rw [h0]; rfl
    have F := Lib.hid (show StRet N G w g wd most (.int .i64 new.length) (stepRuns wd most (segs.map Prod.snd) new) new (.returned (.int .i64 0)) W3 from
      ⟨by rw [h0]; rfl, N', HN1.out, HN2.out, ⟨segs, (q, new), rv, _, K', HST.out, .inr (by have := HP.out; rw [h0, List.append_nil] at this; exact this), by unfold stepRuns; rw [if_pos h0], rfl, by unfold stepRuns; rw [if_pos h0]; exact HND.out, by unfold stepRuns; rw [if_pos h0]; exact HNE.out, by unfold stepRuns; rw [if_pos h0]; exact HIR.out⟩, HK3.out⟩)
    clear h0 cn e3 d3 f3'
    go_wp2_with fail
    go_ret
    exact F.out
  · have tz : ((new.length : Int) == 0) = false := beq_eq_false_iff_ne.2 (fun h => h0 (List.eq_nil_of_length_eq_zero (by omega)))
    have H0 := Lib.hid h0
    obtain ⟨a, cap, hrv, _⟩ := HST.out.ptrs
    subst hrv
    obtain ⟨av, cap2, w5, hrun, e2, f2, HKe, HO, HOW⟩ := HST.out.push (by omega) q
    have d2 := HST.out.cells.2.2.1
    have hgl := (Array.getElem?_eq_some_iff.1 HST.out.blk).1
    have hg : ¬ g = W3.heap.size := by omega
    have hflat : flatR (segs ++ [(q, new)]) = flatR segs ++ new := by unfold flatR; rw [List.flatMap_append]; simp
    have hmap : (segs ++ [(q, new)]).map Prod.snd = segs.map Prod.snd ++ [new] := by rw [List.map_append]; rfl
    have HL := HST.out.list (w2 := w5) (segs' := segs ++ [(q, new)]) (rv' := .slice av (segs.length + 1) cap2) HKe.out (by simpa using HO.out) (fun s hs => by
      rcases List.mem_append.1 hs with hs | hs
      · exact HST.out.seg s hs
      · obtain rfl := List.mem_singleton.1 hs; exact HST.out.del) HOW.out
    have hge : (fun b => (G b ∨ N' b) ∨ (N' b ∨ (Value.slice av (segs.length + 1) cap2).ownBlock = some b)) = fun b => G b ∨ (N' b ∨ (Value.slice av (segs.length + 1) cap2).ownBlock = some b) := by
      funext b
      exact propext ⟨fun h => by
        rcases h with (h | h) | h
        · exact .inl h
        · exact .inr (.inl h)
        · exact .inr h, fun h => by
        rcases h with h | h
        · exact .inl (.inl h)
        · exact .inr h⟩
    rw [hge] at HL
    have hsS : StS (fun b => N' b ∨ (Value.slice av (segs.length + 1) cap2).ownBlock = some b) (fun b => G b ∨ (N' b ∨ (Value.slice av (segs.length + 1) cap2).ownBlock = some b)) (w5.setCell ⟨g, 2, none⟩ (.slice av (segs.length + 1) cap2)) g wd most (segs.map Prod.snd ++ [new]) new := by
      refine ⟨segs ++ [(q, new)], (q, new), _, _, K', HL.1, .inr (by rw [hflat]; exact HP.out), hmap, rfl, ?_, ?_, ?_⟩
      · rw [← hmap, ← flat_is, hflat]
        refine List.nodup_append.2 ⟨by rw [flat_is]; exact HND.out, HNN.out, fun x hx y hy e => ?_⟩
        exact (HNR.out y hy).2 (e ▸ hx)
      · intro r hr
        rcases List.mem_append.1 hr with hr | hr
        · exact HNE.out r hr
        · obtain rfl := List.mem_singleton.1 hr; exact H0.out
      · rw [← hmap, ← flat_is, hflat]
        intro x hx
        rcases List.mem_append.1 hx with hx | hx
        · exact HIR.out x (by rw [← flat_is]; exact hx)
        · exact (HNR.out x hx).1
    have HSS := Lib.hid hsS
    have KW : Hid (Keeps N w (w5.setCell ⟨g, 2, none⟩ (.slice av (segs.length + 1) cap2))) := Lib.hid (HK3.out.later HL.2 HN2.out)
    have NN1 : Hid (∀ b, N b → (N' b ∨ (Value.slice av (segs.length + 1) cap2).ownBlock = some b)) := Lib.hid (fun b hb => .inl (HN1.out b hb))
    have NN2 : Hid (∀ b, (N' b ∨ (Value.slice av (segs.length + 1) cap2).ownBlock = some b) → N b ∨ w.heap.size ≤ b) := Lib.hid (fun b hb => by
      rcases hb with h | h
      · exact HN2.out b h
      · rcases HOW.out b h with h | h
        · exact HN2.out b (HST.out.rN b h)
        · exact .inr (Nat.le_trans HK3.out.size h))
    have CP : Hid (∀ q, Calls Try.prog 22 #[.pointer (some ⟨g, 0, none⟩)] ((w5.setCell ⟨g, 2, none⟩ (.slice av (segs.length + 1) cap2)).drewN q) (StRet (fun b => N' b ∨ (Value.slice av (segs.length + 1) cap2).ownBlock = some b) (fun b => G b ∨ (N' b ∨ (Value.slice av (segs.length + 1) cap2).ownBlock = some b)) ((w5.setCell ⟨g, 2, none⟩ (.slice av (segs.length + 1) cap2)).drewN q) g wd most (.tuple #[]) (compactR wd (segs.map Prod.snd ++ [new])) new)) :=
      Lib.hid (fun q => stCompact_calls (hsS.below (below_drewN (Below.refl _ _) q)) hwd (by rw [List.length_append, List.length_map, List.length_singleton]; omega) (by rw [← hmap, ← flat_is, hflat, List.length_append]; omega))
    have C1 := HL.1.cells.2.1
    have C2 := HL.1.cells.2.2.1
    clear HL hsS hge hmap hflat cn d3 f3' h0 HO HOW HKe
    go_wp2_with fail
    go_region
    clear hrun e2 f2 d2 e3
    generalize World.setCell w5 _ _ = W5 at *
    have hSR : Hid (∀ b : Bool, decide (0 < most ∧ most < ((segs.map Prod.snd).length : Int) + 1) = b → stepRuns wd most (segs.map Prod.snd) new = if b then compactR wd (segs.map Prod.snd ++ [new]) else segs.map Prod.snd ++ [new]) := Lib.hid (fun b hb => by
      unfold stepRuns
      rw [if_neg H0.out]
      by_cases hc : 0 < most ∧ most < ((segs.map Prod.snd).length : Int) + 1
      · rw [if_pos hc]; rw [decide_eq_true hc] at hb; rw [← hb]; rfl
      · rw [if_neg hc]; rw [decide_eq_false hc] at hb; rw [← hb]; rfl)
    have BD : Hid (∀ q, Below w.heap.size w (W5.drewN q) ∨ True) := Lib.hid (fun q => .inr trivial)
    have DONE : Hid (∀ q, ¬ (0 < most ∧ most < (segs.length : Int) + 1) → StRet N G w g wd most (.int .i64 new.length) (stepRuns wd most (segs.map Prod.snd) new) new (.returned (.int .i64 new.length)) (W5.drewN q)) := Lib.hid (fun q hc => by
      rw [hSR.out false (decide_eq_false (by rw [List.length_map]; exact hc))]
      have hb := below_drewN (Below.refl W5.heap.size W5) q
      exact ⟨rfl, _, NN1.out, NN2.out, HSS.out.below hb, KW.out.trans (Keeps.of_below hb)⟩)
    by_cases hm : 0 < most
    · have g1 : decide ((0 : Int) < most) = true := decide_eq_true hm
      by_cases hc : most < (segs.length : Int) + 1
      · have g2 : decide (most < (segs.length : Int) + 1) = true := decide_eq_true hc
        have HC := Lib.hid (And.intro hm hc)
        clear hm hc
        go_wp2_with fail
        go_quiet (fail)
        have cp := CP.out nq
        have kd := Lib.hid (KW.out.trans (Keeps.of_below (N := N) (below_drewN (Below.refl W5.heap.size W5) nq)))
        clear C1 C2
        rename_i qd
        generalize W5.drewN nq = W6 at *
        go_wp2_with fail
        refine cp.mono ?_
        intro e w7 h7
        obtain ⟨h8, h9⟩ := StRet.after NN1.out NN2.out kd.out h7
        subst h8
        have F := Lib.hid (show StRet N G w g wd most (.int .i64 new.length) (stepRuns wd most (segs.map Prod.snd) new) new (.returned (.int .i64 new.length)) w7 from ⟨rfl, by rw [hSR.out true (decide_eq_true (by rw [List.length_map]; exact HC.out))]; exact h9⟩)
        clear h7 h9 cp
        go_wp2_with fail
        go_ret
        exact F.out
      · have g2 : decide (most < (segs.length : Int) + 1) = false := decide_eq_false hc
        have HC := Lib.hid (fun h : 0 < most ∧ most < (segs.length : Int) + 1 => hc h.2)
        clear hm hc
        go_wp2_with fail
        go_quiet (fail)
        go_wp2_with fail
        go_ret
        exact DONE.out _ HC.out
    · have g1 : decide ((0 : Int) < most) = false := decide_eq_false hm
      have HC := Lib.hid (fun h : 0 < most ∧ most < (segs.length : Int) + 1 => hm h.1)
      clear hm
      go_wp2_with fail
      go_quiet (fail)
      go_wp2_with fail
      go_ret
      exact DONE.out _ HC.out
end Go.Proofs.Ytepkmhcchmladaa

/- New, Len, Runs, Delta, Full of a store. -/
namespace Go.Proofs.Ytepkmhcchmladaa
open Go.RowKit Go.Shelf Go.Maps
set_option linter.unusedVariables false
set_option linter.unusedSimpArgs false

theorem flat_take_len {segs : List SP} {i : Nat} (h : i < segs.length) : (flatR (segs.take (i + 1))).length = (flatR (segs.take i)).length + segs[i].2.length := by
  rw [flat_take h, List.length_append]
set_option maxRecDepth 100000 in
set_option maxHeartbeats 2000000 in
theorem stLen_calls {N G : Nat → Prop} {w : World} {g wd : Nat} {most : Int} {runs : List (List (List Int))} {dl : List (List Int)} (h : StS N G w g wd most runs dl) (hn : runs.length ≤ 1000) (hT : runs.flatten.length ≤ 1000) :
    Calls Try.prog 26 #[.pointer (some ⟨g, 0, none⟩)] w fun e w' => e = .returned (.int .i64 runs.flatten.length) ∧ w = w' := by
  obtain ⟨segs, d, rv, kv, K, hk, hK, rfl, rfl, hnd, hne, hir⟩ := h
  rw [List.length_map] at hn
  rw [← flat_is] at hT ⊢
  obtain ⟨_, _, c2, _⟩ := hk.cells
  obtain ⟨a, cap, hrv, hPR, _⟩ := hk.ptrs
  rw [hrv] at c2
  have HS : Hid (∀ s ∈ segs, Seg w s.1 wd s.2) := Lib.hid (fun s hs => (hk.seg s hs).seg)
  have HPR := Lib.hid hPR
  clear hk hK hnd hne hir hrv hPR
  go_enter Try.func26, Try.ntmps26
  go_wp2_with fail
  go_loopw [3, 11] (fun c s wr => ∃ k : Nat, k ≤ segs.length ∧ s = .int .i64 k ∧ (∃ m : Nat, c = .int .i64 m ∧ Hid (m = (flatR (segs.take k)).length)) ∧ wr = w) (fun c s _ => segs.length - (intOf s).toNat)
  case atStart => exact ⟨0, Nat.zero_le _, rfl, ⟨0, rfl, Lib.hid rfl⟩, rfl⟩
  case round =>
    obtain ⟨k, hk, rfl, ⟨m, rfl, HM⟩, rfl⟩ := hrel
    by_cases hlt : k < segs.length
    · obtain ⟨rb, ro, rfl, hrb, hcs⟩ : ∃ rb ro, a = some ⟨rb, ro, none⟩ ∧ rb < wr.heap.size ∧ ∀ i, i < (segs.map Prod.fst).length → wr.cell? ⟨rb, ro + i, none⟩ = some (.pointer ((segs.map Prod.fst)[i]?.getD none)) := by
        rcases HPR.out with h0 | ⟨b, off, h1, h2, h3⟩
        · have := congrArg List.length h0; rw [List.length_map] at this; have h9 : segs.length = 0 := this; omega
        · exact ⟨b, off, h1, h2, h3⟩
      have d0 : wr.cell? ⟨rb, ro + k, none⟩ = some (.pointer segs[k].1) := by
        rw [hcs k (by simpa using hlt)]; simp [hlt]
      have cl := segLen_calls (HS.out segs[k] (List.getElem_mem hlt))
      have hl := flat_take_len hlt
      have hl2 : (flatR (segs.take (k + 1))).length ≤ (flatR segs).length := by rw [flat_split segs (k + 1), List.length_append]; omega
      have hmb : (m : Int) + (segs[k].2.length : Int) ≤ 1000 := by have := HM.out; omega
      have HM2 : Hid (m + segs[k].2.length = (flatR (segs.take (k + 1))).length) := Lib.hid (by have := HM.out; omega)
      have hsl : segs[k].2.length ≤ 1000 := by omega
      generalize segs[k] = sk at *
      clear hcs hrb hl hl2 HM
      go_wp2_with fail
      refine cl.mono ?_
      rintro e w' ⟨rfl, rfl⟩
      go_wp2_with fail
      go_roundw
      case rel => exact ⟨k + 1, by omega, by go_num, ⟨m + sk.2.length, by go_num, HM2⟩, trivial⟩
      case measure => simp [intOf]; omega
    · obtain rfl : k = segs.length := by omega
      have tl : decide ((segs.length : Int) < (segs.length : Int)) = false := decide_eq_false (by omega)
      have hm : m = (flatR segs).length := by have := HM.out; rw [List.take_length] at this; exact this
      have F := Lib.hid hm
      clear hm
      go_wp2_with fail
      go_ret
      refine ⟨?_, rfl⟩
      show Ending.returned (Value.int .i64 (m : Int)) = _
      rw [F.out]
theorem stRuns_calls {N G : Nat → Prop} {w : World} {g wd : Nat} {most : Int} {runs : List (List (List Int))} {dl : List (List Int)} (h : StS N G w g wd most runs dl) : Calls Try.prog 27 #[.pointer (some ⟨g, 0, none⟩)] w fun e w' => e = .returned (.int .i64 runs.length) ∧ w = w' := by
  obtain ⟨segs, d, rv, kv, K, hk, hK, rfl, rfl, _⟩ := h
  rw [List.length_map]
  exact runs_calls hk
theorem stDelta_calls {N G : Nat → Prop} {w : World} {g wd : Nat} {most : Int} {runs : List (List (List Int))} {dl : List (List Int)} (h : StS N G w g wd most runs dl) : Calls Try.prog 25 #[.pointer (some ⟨g, 0, none⟩)] w fun e w' => ∃ q, e = .returned (.pointer q) ∧ SegN G w wd (q, dl) ∧ w = w' := by
  obtain ⟨segs, d, rv, kv, K, hk, hK, rfl, rfl, _⟩ := h
  exact (delta_calls hk).mono fun e w' h => ⟨d.1, h.1, hk.del, h.2⟩
theorem stFull_calls {N G : Nat → Prop} {w : World} {g wd : Nat} {most : Int} {runs : List (List (List Int))} {dl : List (List Int)} (h : StS N G w g wd most runs dl) (hwd : wd ≤ 1000) (hn : runs.length ≤ 1000) (hT : runs.flatten.length ≤ 1000) : Calls Try.prog 23 #[.pointer (some ⟨g, 0, none⟩)] w (FullRet G w wd (relOf (wd : Int) runs.flatten)) := by
  obtain ⟨segs, d, rv, kv, K, hk, hK, rfl, rfl, _⟩ := h
  rw [List.length_map] at hn
  rw [← flat_is] at hT ⊢
  exact full_calls hk hwd hT hn
/-- New. -/
def NewRet (w : World) (wd : Nat) (most : Int) (e : Ending) (w' : World) : Prop :=
  ∃ g, e = .returned (.pointer (some ⟨g, 0, none⟩)) ∧ w.heap.size ≤ g ∧ g < w'.heap.size ∧ (∀ G : Nat → Prop, (∀ b, G b → b < w.heap.size) → StS (fun b => b = g) (fun b => G b ∨ b = g) w' g wd most [] []) ∧ Below w.heap.size w w'
theorem new_in {w w2 : World} {wd : Nat} {most : Int} {q : Option Addr} (hl : ∀ W, Later w.heap.size w2 W → Seg W q wd []) (hb : Below w.heap.size w w2) : NewRet w wd most (.returned (.pointer (some ⟨w2.heap.size, 0, none⟩))) (w2.alloc (.cells #[.int .i64 wd, .int .i64 most, .slice none 0 0, .pointer q, .map none] 70)) := by
  have ba : Below w2.heap.size w2 (w2.alloc (.cells #[.int .i64 wd, .int .i64 most, .slice none 0 0, .pointer q, .map none] 70)) := (Below.refl _ w2).alloc (Nat.le_refl _) _
  refine ⟨_, rfl, hb.size, by simp, fun G hG => ⟨[], (q, []), _, _, [], ⟨heap_alloc_new w2 _, World.ownsRow_nil _ _ _ _, fun s hs => (by cases hs), ⟨w.heap.size, w2, hl, Later.of_below ba, fun b hb => ?_⟩, .inl ⟨rfl, rfl⟩, rfl, fun b hb => by simp [Value.ownBlock] at hb, fun b hb => .inr hb, fun b h9 => ?_⟩, .inl rfl, rfl, rfl, List.nodup_nil, fun r hr => (by cases hr), fun r hr => (by cases hr)⟩, hb.trans (ba.mono hb.size)⟩
  · rcases hb with h | h
    · exact .inl (hG b h)
    · exact .inr (by omega)
  · have := hb.size
    simp
    rcases h9 with h | h
    · have := hG b h; omega
    · omega
set_option maxRecDepth 100000 in
theorem stNew_calls (wd : Nat) (most : Int) (w : World) (hwd : wd ≤ 100) : Calls Try.prog 18 #[.int .i64 wd, .int .i64 most] w (NewRet w wd most) := by
  have cm := make_later wd none 0 [] w ⟨.inl rfl, fun x hx => by cases hx⟩ (by omega) (by simp) (fun x hx => by cases hx)
  have hrel : relOf (wd : Int) (([] : List RV).map (·.2.1)) = [] := rfl
  rw [hrel] at cm
  go_enter Try.func18, Try.ntmps18
  go_wp2_with fail
  refine cm.mono ?_
  rintro e w2 ⟨q, rfl, hl, hb⟩
  have F := Lib.hid (new_in (most := most) hl hb)
  clear hl hb cm hrel
  go_wp2_with fail
  go_ret
  exact F.out
end Go.Proofs.Ytepkmhcchmladaa
