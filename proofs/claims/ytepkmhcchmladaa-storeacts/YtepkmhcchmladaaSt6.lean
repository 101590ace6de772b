import Derived.Test.YtepkmhcchmladaaSt5
/- learn: where a store does not know its rows yet, and both. -/
namespace Go.Proofs.Ytepkmhcchmladaa
open Go.RowKit Go.Shelf Go.Maps
set_option linter.unusedVariables false
set_option linter.unusedSimpArgs false
attribute [local go_sem] Oper.semAt_some

theorem eql_mapnil (w : World) : (binOp BinOp.eql 68 (Value.map none) (Value.map none)).run Try.prog w = .ok (.bool true) w := by kernel_rfl
attribute [local go_sem ↓] eql_mapnil
def flatR (segs : List SP) : List (List Int) := segs.flatMap Prod.snd
/-- learn: whatever the store knew. -/
def LearnRet (N G : Nat → Prop) (w : World) (g wd : Nat) (most : Int) (segs : List SP) (d : SP) (rv : Value) (T rs : List (List Int)) (e : Ending) (w' : World) : Prop :=
  ∃ q mb N' K', e = .returned (.pointer q) ∧ K'.Perm (T ++ minusR rs T) ∧ (∀ b, N b → N' b) ∧ (∀ b, N' b → N b ∨ w.heap.size ≤ b) ∧ StK N' (fun b => G b ∨ N' b) w' g wd most segs d rv (.map (some mb)) K' ∧ SegN (fun b => G b ∨ N' b) w' wd (q, minusR rs T) ∧ Keeps N w w'
theorem StK.mapped {N G : Nat → Prop} {w V0 : World} {g wd mb : Nat} {most : Int} {segs : List SP} {d : SP} {rv : Value} {K : List (List Int)} (h : StK N G w g wd most segs d rv (.map none) K) (hb : Below w.heap.size w V0) (hm : V0.ownsMap Try.prog 9 unitElem mb 0 (.map [] : DataW Unit)) (h1 : w.heap.size ≤ mb) (h2 : mb < V0.heap.size) :
    StK (fun b => N b ∨ b = mb) (fun b => G b ∨ b = mb) (V0.setCell ⟨g, 4, none⟩ (.map (some mb))) g wd most segs d rv (.map (some mb)) [] ∧ Keeps (fun b => b = g) w (V0.setCell ⟨g, 4, none⟩ (.map (some mb))) := by
  have gl := (Array.getElem?_eq_some_iff.1 h.blk).1
  have k : Keeps (fun b => b = g) w (V0.setCell ⟨g, 4, none⟩ (.map (some mb))) := (Keeps.of_below (N := fun b => b = g) hb).setCell (p := ⟨g, 4, none⟩) rfl _
  have hg0 : V0.heap[g]? = _ := (hb.block g gl).trans h.blk
  have kG : ∀ b, b = g → G b := fun b e => e ▸ h.sub _ h.gN
  refine ⟨⟨by simp [World.setCell, Array.getElem?_modify, hg0], owns_keeps h.runs k (fun b hb e => own_ne_cells h.runs h.blk (by decide) (e ▸ hb)), fun s hs => (h.seg s hs).step k kG (fun b hb => ?_), h.del.step k kG (fun b hb => ?_), .inr ⟨mb, .map [], rfl, .inr rfl, map_keeps hm (N := fun b => b = g) ((Keeps.refl (fun b => b = g) V0).setCell (p := ⟨g, 4, none⟩) rfl _) (by omega), mapHas_nil⟩, .inl h.gN, fun b hb => .inl (h.rN b hb), fun b hb => ?_, fun b hb => ?_⟩, k⟩
  · rcases hb with h | h
    · exact .inl h
    · exact .inr (by omega)
  · rcases hb with h | h
    · exact .inl h
    · exact .inr (by omega)
  · rcases hb with h3 | h3
    · exact .inl (h.sub b h3)
    · exact .inr h3
  · have hs : (V0.setCell ⟨g, 4, none⟩ (.map (some mb))).heap.size = V0.heap.size := by simp [World.setCell]
    rw [hs]
    rcases hb with h3 | h3
    · exact Nat.lt_of_lt_of_le (h.lt b h3) hb.size
    · omega
theorem flat_take {segs : List SP} {i : Nat} (h : i < segs.length) : flatR (segs.take (i + 1)) = flatR (segs.take i) ++ segs[i].2 := by
  unfold flatR; rw [List.take_succ_eq_append_getElem h, List.flatMap_append]; simp
theorem flat_split (segs : List SP) (i : Nat) : flatR segs = flatR (segs.take i) ++ flatR (segs.drop i) := by
  unfold flatR; rw [← List.flatMap_append, List.take_append_drop]
theorem minus_apart {segs : List SP} (hn : (flatR segs).Nodup) {i : Nat} (h : i < segs.length) : minusR segs[i].2 (flatR (segs.take i)) = segs[i].2 := by
  have e : flatR segs = flatR (segs.take i) ++ (segs[i].2 ++ flatR (segs.drop (i + 1))) := by
    rw [← List.append_assoc, ← flat_take h]; exact flat_split segs (i + 1)
  rw [e] at hn
  have h2 := (List.nodup_append.1 hn).2.2
  unfold minusR
  refine List.filter_eq_self.2 (fun x hx => ?_)
  rw [decide_eq_true_iff]
  intro hm
  exact h2 x hm x (List.mem_append_left _ hx) rfl
theorem run_mk68 (w : World) : (Instr.makeMap 68 none).run Try.prog w = .ok (.map (some w.heap.size)) (w.alloc (.map #[] 0)) := rfl
set_option maxRecDepth 100000 in
set_option maxHeartbeats 4000000 in
theorem learn0_calls {N0 G0 : Nat → Prop} {w : World} {g wd : Nat} {most : Int} {segs : List SP} {d : SP} {rv : Value} {K0 : List (List Int)} (h : StK N0 G0 w g wd most segs d rv (.map none) K0) {s : SP} (hs : SegN G0 w wd s) (hwd : wd ≤ 100) (hn : segs.length ≤ 1000) (hT : (flatR segs).length ≤ 1000) (hnd : (flatR segs).Nodup) (hrs : s.2.length ≤ 1000) (hTr : ∀ x ∈ flatR segs, InRange x) (hsr : ∀ x ∈ s.2, InRange x) :
    Calls Try.prog 49 #[.pointer (some ⟨g, 0, none⟩), .pointer s.1] w (LearnRet N0 G0 w g wd most segs d rv (flatR segs) s.2) := by
  obtain ⟨bx, hbx⟩ : ∃ bx, w.heap.size = bx := ⟨_, rfl⟩
  have HBB := Lib.hid hbx
  obtain ⟨V0, hV0⟩ : ∃ V0, (w.alloc (.cells #[.pointer (some ⟨g, 0, none⟩)] 39)).alloc (.map #[] 0) = V0 := ⟨_, rfl⟩
  have hgl := (Array.getElem?_eq_some_iff.1 h.blk).1
  have hbV : Below w.heap.size w V0 := by rw [← hV0]; exact ((Below.refl _ _).alloc (Nat.le_refl _) _).alloc (by simp) _
  have hsz : V0.heap.size = bx + 2 := by rw [← hV0]; simp [hbx]
  have hown : V0.ownsMap Try.prog 9 unitElem (bx + 1) 0 (.map [] : DataW Unit) := by
    have := World.ownsMap_made (H := Unit) (w.alloc (.cells #[.pointer (some ⟨g, 0, none⟩)] 39)) Try.prog 9 unitElem
    rw [show (w.alloc (.cells #[.pointer (some ⟨g, 0, none⟩)] 39)).heap.size = bx + 1 by simp [hbx], hV0] at this
    exact this
  have HBX0 : Hid (Boxed V0 bx 39 (.pointer (some ⟨g, 0, none⟩))) := Lib.hid (by rw [← hV0, ← hbx]; exact (Boxed.new w 39 _).alloc _)
  obtain ⟨hs1, hk1⟩ := h.mapped hbV hown (by omega) (by omega)
  have HS1 := Lib.hid hs1
  have HK1 := Lib.hid hk1
  have H := Lib.hid h
  have HSN0 := Lib.hid hs
  have HTR := Lib.hid hTr
  have HSR := Lib.hid hsr
  have HND := Lib.hid hnd
  have HSS := Lib.hid hs.seg.1
  have HSW := Lib.hid hs.seg.2.1
  obtain ⟨_, _, c2, _, c4, f4⟩ := h.cells
  obtain ⟨a, cap, hrv, hPR, hne⟩ := h.ptrs
  have hg : ¬ g = bx := by omega
  have hg1 : ¬ g = bx + 1 := by omega
  have e1 : (((w.alloc (.cells #[.pointer (some ⟨g, 0, none⟩)] 39)).alloc (.map #[] 0)).setCell ⟨g, 4, none⟩ (.map (some (bx + 1)))).cell? ⟨bx, 0, none⟩ = some (.pointer (some ⟨g, 0, none⟩)) := by
    rw [hV0, World.cell?_of_block (a := ⟨bx, 0, none⟩) (Below.heap_setCell _ _ _ bx (fun e => hg e.symm))]; exact HBX0.out.cell
  have e2 : (((w.alloc (.cells #[.pointer (some ⟨g, 0, none⟩)] 39)).alloc (.map #[] 0)).setCell ⟨g, 4, none⟩ (.map (some (bx + 1)))).cell? ⟨g, 2, none⟩ = some (.slice a segs.length cap) := by
    rw [hV0, ← hrv]; exact hs1.cells.2.2.1
  have d4 : (w.alloc (.cells #[.pointer (some ⟨g, 0, none⟩)] 39)).cell? ⟨g, 4, none⟩ = some (.map none) := by
    rw [((Below.refl w.heap.size w).alloc (Nat.le_refl _) _).cell (p := ⟨g, 4, none⟩) hgl]; exact c4
  have f0 : ((w.alloc (.cells #[.pointer (some ⟨g, 0, none⟩)] 39)).alloc (.map #[] 0)).frozen? ⟨g, 4, none⟩ = false := by
    have hg0 : V0.heap[g]? = _ := (hbV.block g hgl).trans h.blk
    rw [hV0]; simp [World.frozen?, hg0]
  have d5 : ((w.alloc (.cells #[.pointer (some ⟨g, 0, none⟩)] 39)).alloc (.map #[] 0)).cell? ⟨g, 4, none⟩ = some (.map none) := by
    rw [hV0, hbV.cell (p := ⟨g, 4, none⟩) hgl]; exact c4
  have HV0 := Lib.hid hV0
  have hmm := @run_mk68
  clear hV0 hbx
  clear h hs hTr hsr hnd hs1 hk1 hsz hown hbV
  refine callsIn_wide.1 (callsIn_of_wp_marks (n := 9) Try.func49 rfl trivial (wpIn_wide.2 ?_) rfl)
  simp only [Try.ntmps49, List.size_toArray, List.length_cons, List.length_nil, Nat.reduceAdd, Nat.reduceSub, Array.replicate_succ, Array.replicate_zero, List.push_toArray, List.append_toArray, List.nil_append, List.cons_append]
  go_wp2_with fail
  have HEQ : ((w.setCell ⟨g, 4, none⟩ (.map (some (bx + 1)))).alloc (.cells #[.pointer (some ⟨g, 0, none⟩)] 39)).alloc (.map #[] 0) = V0.setCell ⟨g, 4, none⟩ (.map (some (bx + 1))) := by
    rw [← HV0.out, World.setCell_alloc_past _ _ _ _ (by simp; omega), World.setCell_alloc_past _ _ _ _ hgl]
  rw [HBB.out, HEQ]
  rw [HV0.out] at e1 e2
  clear HEQ
  obtain ⟨mb, hmb⟩ : ∃ mb, bx + 1 = mb := ⟨_, rfl⟩
  rw [hmb] at e1 e2 HS1 HK1 ⊢
  obtain ⟨N, hN⟩ : ∃ N, N = fun b => N0 b ∨ b = mb := ⟨_, rfl⟩
  obtain ⟨G, hG⟩ : ∃ G, G = fun b => G0 b ∨ b = mb := ⟨_, rfl⟩
  rw [← hN, ← hG] at HS1
  have HN := Lib.hid hN
  have HGG := Lib.hid hG
  have HMB := Lib.hid hmb
  have BX1 : Hid (Boxed (V0.setCell ⟨g, 4, none⟩ (.map (some mb))) bx 39 (.pointer (some ⟨g, 0, none⟩))) := Lib.hid ((Below.heap_setCell _ _ _ bx (fun e => hg e.symm)).trans HBX0.out)
  have HMG : Hid (bx < mb ∧ g ≠ mb ∧ mb < (V0.setCell ⟨g, 4, none⟩ (.map (some mb))).heap.size) := Lib.hid ⟨by omega, by have := HBB.out; omega, by rw [← HV0.out, ← hmb, ← HBB.out]; simp [World.setCell]⟩
  have hrv' := Lib.hid hrv
  clear hmb hN hG HBX0 HV0 hrv d4 d5 f0 c2 c4 f4 hg hg1 hmm
  generalize V0.setCell _ _ = V1 at *
  go_loopw [26] (fun s wr => ∃ k : Nat, k ≤ segs.length ∧ s = .int .i64 k ∧ Hid (StK N G wr g wd most segs d (.slice a segs.length cap) (.map (some mb)) (flatR (segs.take k)) ∧ Keeps (fun b => b = mb) V1 wr)) (fun s _ => segs.length - (intOf s).toNat)
  case atStart => exact ⟨0, Nat.zero_le _, rfl, Lib.hid ⟨by rw [← hrv'.out]; exact HS1.out, Keeps.refl _ _⟩⟩
  case round =>
    obtain ⟨k, hk, rfl, HH⟩ := hrel
    have hbxc : wr.cell? ⟨bx, 0, none⟩ = some (.pointer (some ⟨g, 0, none⟩)) := (boxed_kept BX1.out HH.out.2 (by have := HMG.out; omega)).cell
    by_cases hlt : k < segs.length
    · obtain ⟨a', cap', hrv2, hPR', hne'⟩ := HH.out.1.ptrs
      cases hrv2
      obtain ⟨rb, ro, rfl, hrb, hcs⟩ : ∃ rb ro, a = some ⟨rb, ro, none⟩ ∧ rb < wr.heap.size ∧ ∀ i, i < (segs.map Prod.fst).length → wr.cell? ⟨rb, ro + i, none⟩ = some (.pointer ((segs.map Prod.fst)[i]?.getD none)) := by
        rcases hPR' with h0 | ⟨b, off, h1, h2, h3⟩
        · have := congrArg List.length h0; rw [List.length_map] at this; have h9 : segs.length = 0 := this; omega
        · exact ⟨b, off, h1, h2, h3⟩
      have d0 : wr.cell? ⟨rb, ro + k, none⟩ = some (.pointer segs[k].1) := by
        rw [hcs k (by simpa using hlt)]; simp [hlt]
      have hmt : ∀ x ∈ flatR (segs.take k), x ∈ flatR segs := fun x hx => by rw [flat_split segs k]; exact List.mem_append_left _ hx
      have hmk : ∀ x ∈ segs[k].2, x ∈ flatR segs := fun x hx => by rw [flat_split segs (k + 1), flat_take hlt]; exact List.mem_append_left _ (List.mem_append_right _ hx)
      have hl1 : (flatR (segs.take k)).length ≤ (flatR segs).length := by rw [flat_split segs k, List.length_append]; omega
      have hl2 : segs[k].2.length ≤ (flatR segs).length := by rw [flat_split segs (k + 1), flat_take hlt, List.length_append, List.length_append]; omega
      have cp := learnK_calls HH.out.1 (HH.out.1.seg segs[k] (List.getElem_mem hlt)) hwd (by omega) (by omega) (fun x hx => HTR.out x (hmt x hx)) (fun x hx => HTR.out x (hmk x hx))
      have NX : Hid (∀ w', StK N G w' g wd most segs d (.slice (some ⟨rb, ro, none⟩) segs.length cap) (.map (some mb)) (flatR (segs.take k) ++ minusR segs[k].2 (flatR (segs.take k))) → Keeps (fun b => b = mb) wr w' → StK N G w' g wd most segs d (.slice (some ⟨rb, ro, none⟩) segs.length cap) (.map (some mb)) (flatR (segs.take (k + 1))) ∧ Keeps (fun b => b = mb) V1 w') := Lib.hid (fun w' h1 h2 => by
        rw [minus_apart HND.out hlt, ← flat_take hlt] at h1
        exact ⟨h1, HH.out.2.trans h2⟩)
      generalize segs[k] = sk at *
      clear hcs hrb hPR' hne' hmt hmk hl1 hl2
      go_wp2_with fail
      refine cp.mono ?_
      rintro e w' ⟨q, rfl, h1, h2, h3⟩
      have H1 := Lib.hid (NX.out w' h1 h3)
      clear h1 h2 h3 cp NX d0 hbxc
      go_wp2_with fail
      go_roundw
      case rel => exact ⟨k + 1, by omega, by go_num, H1⟩
      case measure => simp [intOf]; omega
    · obtain rfl : k = segs.length := by omega
      have tl : decide ((segs.length : Int) < (segs.length : Int)) = false := decide_eq_false (by omega)
      have HKW : Hid (Keeps N0 w wr) := Lib.hid ((HK1.out.mono (M := N0) (fun b _ e => e ▸ H.out.gN)).later HH.out.2 (fun b e => .inr (by have := HMB.out; have := HBB.out; omega)))
      have HSX := HH.out.1
      rw [List.take_length] at HSX
      have HKE : ∃ K, flatR segs = K := ⟨_, rfl⟩
      obtain ⟨K, hKE⟩ := HKE
      have HKF := Lib.hid hKE
      have HKR : Hid (∀ x ∈ K, InRange x) := Lib.hid (by rw [← hKE]; exact HTR.out)
      have hK : K.length ≤ 100000 := by rw [← hKE]; omega
      rw [hKE] at HSX
      obtain ⟨D0, hmN, hm0, hD0⟩ : ∃ D, N mb ∧ wr.ownsMap Try.prog 9 unitElem mb K.length D ∧ MapHas D (K.map keyText) := by
        rcases HSX.known with ⟨h1, _⟩ | ⟨b, D, h1, h2, h3, h4⟩
        · cases h1
        · cases h1; exact ⟨_, h2, h3, h4⟩
      have HS := Lib.hid HSX
      have HSN : Hid (SegN G wr wd s) := Lib.hid (HSN0.out.step HKW.out (fun b hb => H.out.sub b hb) (fun b hb => by
        rw [HGG.out] at hb
        rcases hb with h | h
        · exact .inl h
        · exact .inr (by have := HMB.out; have := HBB.out; omega)))
      have HMN := Lib.hid hmN
      have HM0 := Lib.hid hm0
      have HD0 := Lib.hid hD0
      have HBX := Lib.hid (boxed_kept BX1.out HH.out.2 (by have := HMG.out; omega))
      have HGM : Hid (g ≠ mb) := Lib.hid HMG.out.2.1
      have HGL := Lib.hid ((Array.getElem?_eq_some_iff.1 HSX.blk).1)
      have hrs' := hrs
      have POST : Hid (∀ q W', StK N G W' g wd most segs d (.slice a segs.length cap) (.map (some mb)) (K ++ minusR s.2 K) → SegN G W' wd (q, minusR s.2 K) → Keeps (fun b => b = mb) wr W' → LearnRet N0 G0 w g wd most segs d rv (flatR segs) s.2 (.returned (.pointer q)) W') :=
        Lib.hid (fun q W' h1 h2 h3 => by
          rw [hKE, hrv'.out]
          have hge : (fun b => G0 b ∨ N b) = G := by
            rw [HN.out, HGG.out]
            funext b
            exact propext ⟨fun h => by
              rcases h with h | h | h
              · exact .inl h
              · exact .inl (H.out.sub b h)
              · exact .inr h, fun h => by
              rcases h with h | h
              · exact .inl h
              · exact .inr (.inr h)⟩
          refine ⟨q, mb, N, _, rfl, List.Perm.refl _, fun b hb => by rw [HN.out]; exact .inl hb, fun b hb => ?_, by rw [hge]; exact h1, by rw [hge]; exact h2, HKW.out.later h3 (fun b e => .inr (by have := HMB.out; have := HBB.out; omega))⟩
          rw [HN.out] at hb
          rcases hb with h | h
          · exact .inl h
          · exact .inr (by have := HMB.out; have := HBB.out; omega))
      obtain ⟨V, hV⟩ : ∃ V, V = wr := ⟨_, rfl⟩
      obtain ⟨E, hE⟩ : ∃ E, wr.heap.size = E := ⟨_, rfl⟩
      have HE := Lib.hid hE
      have HBE : Hid (bx < E ∧ bx ≠ mb ∧ mb < E) := Lib.hid ⟨by rw [← hE]; exact HBX.out.lt, by have := HMG.out; omega, by rw [← hE]; exact HSX.lt _ (HSX.sub _ hmN)⟩
      clear HH HSX hmN hm0 hD0 hE hKE H HSN0 HK1 HS1 HTR HND hPR hne hgl hT hn e1 e2 hbxc hlt hk HKF
      rw [← hV] at HKW HS HSN HM0 HBX HGL POST HE ⊢
      clear hV
      go_wp2_with fail
      obtain ⟨i1, hj0, hy0, hy1, hy2⟩ := info_parts info33
      have J := Lib.hid hj0
      have Y0 := Lib.hid hy0
      have Y1 := Lib.hid hy1
      have Y2 := Lib.hid hy2
      clear hj0 hy0 hy1 hy2
      refine (all73_calls _ _).mono ?_
      rintro e w3 ⟨rfl, rfl⟩
      go_wp2_with fail
      have hmb : mb < E := by have := HBE.out; omega
      have hbxE : bx < E := HBE.out.1
      have hbm : bx ≠ mb := by have := HBE.out; omega
      have SZ : Hid (((V.alloc (.cells #[.slice none 0 0] 28)).alloc (.cells #[.pointer s.1] 30)).heap.size = E + 2) := Lib.hid (by simp [HE.out])
      have BW : Hid (Below E V ((V.alloc (.cells #[.slice none 0 0] 28)).alloc (.cells #[.pointer s.1] 30))) := Lib.hid (((Below.refl _ _).alloc (by rw [HE.out]; omega) _).alloc (by simp; rw [HE.out]; omega) _)
      have X0 := Lib.hid ((HBX.out.alloc (.cells #[.slice none 0 0] 28)).alloc (.cells #[.pointer s.1] 30))
      have X1 := Lib.hid ((Boxed.new V 28 (.slice none 0 0)).alloc (.cells #[.pointer s.1] 30))
      have X2 := Lib.hid (Boxed.new (V.alloc (.cells #[.slice none 0 0] 28)) 30 (.pointer s.1))
      have HB2 : Hid ((V.alloc (.cells #[.slice none 0 0] 28)).heap.size = E + 1) := Lib.hid (by simp [HE.out])
      rw [HE.out] at X1 ⊢
      rw [HB2.out] at X2
      clear HB2
      generalize World.alloc (World.alloc V _) _ = W0 at *
      have U0 : Hid (UL E W0 (.slice none 0 0) []) := Lib.hid ⟨World.ownsRow_nil _ _ _ _, fun x hx => by cases hx⟩
      have K0 : Hid (Keeps (fun b => b = mb) V W0) := Lib.hid (Keeps.of_below (by rw [HE.out]; exact BW.out))
      obtain ⟨D, hD⟩ : ∃ D, W0.heap.size = D := ⟨_, rfl⟩
      have HD := Lib.hid hD
      have hBD : D = E + 2 := by have := SZ.out; omega
      clear hD SZ
      refine (wpIn_wide (n := 9)).1 ?_
      refine range_loop3 (α := RV) (gf := 92) (lb := #[.pointer (some ⟨E + 1, 0, none⟩)]) rfl (enters_of Try.func92 (by kernel_rfl) rfl) (encs := fun x => #[encV x]) (fun _ => rfl) (AR s.2 D) offV (ARS s.2) (fun _ => True) (LI bx E D mb g V K s.2) (fun c pre X => False) (fun b => b = E ∨ (Value.slice none 0 0).ownBlock = some b ∨ b = mb)
        ?hIF ?hI ?hIx ?hRo ?hR ?h0 (A := fun b => b = E ∨ (Value.slice none 0 0).ownBlock = some b ∨ b = mb) (fun _ h => h) ?hiter (fun x => { tmps := #[.pointer (some ⟨g, 0, none⟩), .pointer s.1, .pointer (some ⟨bx, 0, none⟩), undef, .pointer none, undef, u6, .pointer (some ⟨E, 0, none⟩), encV x, undef, undef, undef, .pointer (some ⟨g, 0, none⟩), .pointer (some ⟨g, 0, none⟩), .pointer (some ⟨g, 4, none⟩), .map none, .bool true, .pointer (some ⟨g, 0, none⟩), .map (some mb), .pointer (some ⟨g, 0, none⟩), .pointer (some ⟨g, 4, none⟩), .pointer (some ⟨g, 0, none⟩), .pointer (some ⟨g, 0, none⟩), .pointer (some ⟨g, 2, none⟩), .slice a segs.length cap, .int .i64 segs.length, .int .i64 segs.length, .bool false, u28, u29, u30, u31, u32, u33, .pointer s.1, .func (.func 92) #[] #[.pointer (some ⟨E + 1, 0, none⟩)], encV x, undef, undef, undef, undef, undef, undef, undef, undef, undef, undef, undef, undef, undef, undef, undef, undef, undef, undef, undef, undef, undef, undef, undef, undef, undef, undef, undef, undef, undef, undef, undef, undef, undef, undef, undef], defers := [] }) ?hassign ?hbody ?hdone ?hstop
      case hassign => intro l x X K hK; gi_wp2; exact hK
      case hIF =>
        rintro pre F X ⟨v, L, Dm, rfl, h1, h2, h3, h4, h5, h6, h7, h8, h9, h10⟩ b hb
        rw [HD.out]
        rcases hb with rfl | hb | rfl
        · exact ⟨h2.lt, by omega, by omega⟩
        · exact ⟨(h1.own.lt b hb).2, (h5 b hb).2.2⟩
        · exact ⟨by have := h4.size; rw [HE.out] at this; omega, by omega, by omega⟩
      case hI =>
        rintro pre F X X' N' ⟨v, L, Dm, rfl, h1, h2, h3, h4, h5, h6, h7, h8, h9, h10⟩ hk hN
        rw [HD.out] at hN
        exact ⟨v, L, Dm, rfl, h1.keeps hk (fun b hb hn => (hN b hn).1 (.inr (.inl hb))) (fun x hx q hq hn => (hN _ hn).2.2 x (h6 x hx).1 q hq rfl), boxed_kept h2 hk (fun hn => (hN _ hn).1 (.inl rfl)), boxed_kept h3 hk (fun hn => by have := (hN _ hn).2.1; omega), h4.later hk (fun b hn => .inr (by have := (hN _ hn).2.1; rw [HE.out]; omega)), h5, h6, map_keeps h7 hk (fun hn => (hN _ hn).1 (.inr (.inr rfl))), h8, h9, h10⟩
      case hIx => rintro c pre X X' h; exact h.elim
      case hRo =>
        rintro pre x F X ⟨_, _, _, h, _⟩ q hq
        have := (h q hq).2.1
        rw [HD.out]; omega
      case hR =>
        rintro pre x F X X' L ⟨h0, h1, h2, h3, h4⟩ hL hk
        rw [HD.out] at hL hk
        exact ⟨h0, h1.keeps hk (fun q hq e => by have := (h3 q hq).2.1; omega), h2, fun q hq => ⟨Nat.lt_of_lt_of_le (h3 q hq).1 hk.size, (h3 q hq).2⟩, h4⟩
      case h0 =>
        have hm1 := map_keeps HM0.out (Keeps.of_below (N := fun _ => False) (by rw [HE.out]; exact BW.out)) (fun h => h)
        exact ⟨_, [], D0, rfl, U0.out, X1.out, X0.out, K0.out, (fun b hb => by simp [Value.ownBlock] at hb), (fun x hx => by cases hx), hm1, by simpa using HD0.out, Nat.zero_le _, by simp [minusR]⟩
      case hiter =>
        rw [HD.out]
        refine all92_in 8 (E + 1) s.1 wd s.2 _ D W0 (by omega) hrs HD.out (fun W hk => ?_)
        have hkw : Keeps (fun b => b = mb) V W := K0.out.later hk (fun b hb => by
          rw [HE.out]
          rcases hb with (h | h | h) | h
          · exact .inr (by omega)
          · simp [Value.ownBlock] at h
          · exact .inl h
          · exact .inr (by omega))
        refine ⟨?_, (HSN.out.step hkw (fun b e => HS.out.sub b (e ▸ HMN.out)) (fun b h => .inl h)).seg⟩
        rw [World.cell?_of_block (a := ⟨E + 1, 0, none⟩) (hk.block (E + 1) (by rw [HD.out]; omega) (fun h => by
          rcases h with (h | h | h) | h
          · omega
          · simp [Value.ownBlock] at h
          · omega
          · omega))]
        exact X2.out.cell
      case hbody =>
        rintro l pre F x X hsz HLI ⟨hx0, hx1, hx2, hx3, hx4⟩
        obtain ⟨xa, xz, xc⟩ := x
        dsimp only at hx0 hx1 hx2 hx3
        subst hx0
        have HL0 := Lib.hid HLI
        obtain ⟨v, L, Dm, hF, hU, hb1, hb0, h4, h5, h6, h7, h8, h9, h10⟩ := HLI
        obtain ⟨va, vc, rfl, _⟩ := hU.rrow
        have hzl : (rowAt s.2 pre.length).length = wd := HSW.out _ (rowAt_mem hx4)
        have cb := bytesOf_calls xa xc (rowAt s.2 pre.length) X hx1 (by omega)
        have hxm := rowAt_mem hx4
        have HKY : Hid (keyOf Try.prog 9 (.string (keyText (rowAt s.2 pre.length))) = some (key (keyText (rowAt s.2 pre.length)))) := Lib.hid (WideMaps.keyOf_string_mk Try.underlying9 (keyText_size (by omega)))
        have HAS : Hid (has Dm (key (keyText (rowAt s.2 pre.length))) = decide (rowAt s.2 pre.length ∈ K)) := Lib.hid (by
          rw [h8.2, mem_rows (fun x hx => ?_) (HSR.out _ hxm)]
          · refine decide_eq_decide.2 ⟨fun hh => ?_, fun hh => List.mem_append_left _ hh⟩
            rcases List.mem_append.1 hh with hh | hh
            · exact hh
            · rw [h10, mem_minus] at hh
              exact absurd hh.1 (row_new HSS.out hx4)
          · rcases List.mem_append.1 hx with hh | hh
            · exact HKR.out x hh
            · rw [h10, mem_minus] at hh
              exact HSR.out x (List.mem_of_mem_take hh.1))
        have hLl : L.length ≤ 1000 := by
          have e1 := congrArg List.length h10
          have e2 : (minusR (s.2.take pre.length) K).length ≤ (s.2.take pre.length).length := List.length_filter_le ..
          rw [List.length_map] at e1
          rw [List.length_take] at e2
          omega
        have HX := Lib.hid (And.intro hx1 (And.intro hx2 hx3))
        have HX4 := Lib.hid hx4
        have HB0 := Lib.hid hb0
        have HB1 := Lib.hid hb1
        have HU := Lib.hid hU
        have HM := Lib.hid h7
        have H4 := Lib.hid h4
        have H5 := Lib.hid h5
        have H6 := Lib.hid h6
        have H8 := Lib.hid h8
        have H10 := Lib.hid h10
        have HFF := Lib.hid hF
        rw [HD.out] at hsz
        have HST := Lib.hid (HS.out)
        have C4 : Hid (∀ X', Below X.heap.size X X' → X'.cell? ⟨g, 4, none⟩ = some (.map (some mb))) := Lib.hid (fun X' hb => by
          obtain ⟨_, _, _, _, c4, _⟩ := HS.out.cells
          have e1 := h4.trans (Keeps.of_below (N := fun b => b = mb) hb)
          rw [World.cell?_of_block (a := ⟨g, 4, none⟩) (e1.block g HGL.out HGM.out)]; exact c4)
        clear hxm hx1 hx2 hx3 hb0 hb1 hU h7 h4 h5 h6 h8 h10 hF hx4 hzl
        dsimp only [encV]
        generalize hzz : rowAt s.2 pre.length = z at *
        have HZZ := Lib.hid hzz
        clear hzz
        gi_wp2
        refine ⟨trivial, ((callsIn_wide.2 cb).inRound l).mono ?_⟩
        rintro e X1 ⟨rfl, hbx⟩
        rw [show strOfNums (bytesK z) = keyText z from rfl]
        have BX := Lib.hid hbx
        have cg4 := C4.out X1 hbx
        have cB : X1.cell? ⟨bx, 0, none⟩ = some (.pointer (some ⟨g, 0, none⟩)) := (boxed_kept HB0.out (Keeps.of_below (N := fun _ => False) hbx) id).cell
        have HM1 := Lib.hid (map_keeps HM.out (Keeps.of_below (N := fun _ => False) hbx) id)
        have hown := HM1.out
        clear cb hbx
        have BX2 : Hid (Below X.heap.size X (X1.alloc (.cells #[] 103))) := Lib.hid (BX.out.alloc BX.out.size _)
        by_cases hm : z ∈ K
        · rw [decide_eq_true hm] at HAS
          have HMM := Lib.hid hm
          clear hm
          gi_wp2_with (first | (gi_at_lookup; refine wpListIn_lookup_own_unit _ rfl _ _ 68 rfl 9 103 law Try.underlying68 (zeroU _) mb _ Dm rfl hown _ _ rfl HKY.out ?_; rw [HAS.out]))
          have hz := HZZ.out
          subst hz
          exact ⟨F, HL0.out.old BX2.out HX4.out HMM.out, Keeps.of_below BX2.out, fun b hb => .inl hb⟩
        · rw [decide_eq_false hm] at HAS
          have HMM := Lib.hid hm
          clear hm
          have cB2 : (X1.alloc (.cells #[] 103)).cell? ⟨bx, 0, none⟩ = some (.pointer (some ⟨g, 0, none⟩)) := (boxed_kept HB0.out (Keeps.of_below (N := fun _ => False) BX2.out) id).cell
          have cg2 := C4.out _ BX2.out
          have HM2 := Lib.hid (map_keeps HM.out (Keeps.of_below (N := fun _ => False) BX2.out) id)
          have hown2 := HM2.out
          gi_wp2_with (first | (gi_at_lookup; refine wpListIn_lookup_own_unit _ rfl _ _ 68 rfl 9 103 law Try.underlying68 (zeroU _) mb _ Dm rfl hown _ _ rfl HKY.out ?_; rw [HAS.out]) | (gi_at_mapUpdate; refine wpListIn_mapUpdate_own _ rfl _ _ _ 68 rfl 9 103 law Try.underlying68 unitElem mb _ Dm rfl hown2 ?hmx _ _ _ rfl rfl HKY.out (.agg []) [] unitElem_mk ?_))
          case hmx => unfold maxLen; omega
          intro X3 hown3 hgrow3
          have KX3 : Hid (Keeps (fun b => b = mb) X X3) := Lib.hid ((Keeps.of_below (N := fun b => b = mb) BX2.out).trans (Keeps.of_grown hgrow3 (fun k e => by cases e; rfl)))
          have HM3 := Lib.hid hown3
          have nvm : (Value.slice va L.length vc).ownBlock ≠ some mb := own_ne_map HU.out.own HM.out
          have hU3 := HU.out.keeps KX3.out (fun b hb e => nvm (e ▸ hb)) (fun x hx q hq e => by have := (H6.out x hx).2 q hq; omega)
          have HU3 := Lib.hid hU3
          have hbb := boxed_kept HB1.out KX3.out (show ¬ E = mb by omega)
          have c1 : X3.cell? ⟨E, 0, none⟩ = some (.slice va L.length vc) := hbb.cell
          have hx1 : Row X3 xa z := HX.out.1.keeps KX3.out (fun q hq e => by have := (HX.out.2.2 q hq).2.1; omega)
          have PW := Lib.hid (fun v' w1 (h1 : w1.ownsRow E 33 1 v' (L.length + 1) (L.map encV ++ [encV (xa, z, xc)])) h2 h3 => cpush (B := E) (c := E) (w1 := w1) (v' := v') (x := (xa, z, xc)) (o := .cells #[.slice xa z.length xc] 33) hU3 hbb (fun e => (H5.out _ e).2.1 rfl) (fun x hx q hq => by have := (H6.out x hx).2 q hq; omega) hx1 HX.out.2.1 (fun q hq => ⟨Nat.lt_of_lt_of_le (HX.out.2.2 q hq).1 KX3.out.size, fun e => (HX.out.2.2 q hq).2.2 (by
            rw [HFF.out]
            rcases e with e | e
            · exact .inl e
            · exact .inr (.inl e))⟩) h1 h2 h3)
          clear hown hown2 hown3 hgrow3 hbb hU3 hx1 cB cB2 cg2 cg4 nvm
          gi_wp2_with (first | (gi_at_builtin; refine listIn_of_list l _ (by rintro ⟨a9, w9, h9⟩; simp (config := { zetaDelta := true }) [Exit.then, Exit.inBlock, RPost] at h9) _ (by intro o ho c; simp only [List.mem_cons, List.not_mem_nil, or_false] at ho; rcases ho with rfl | rfl <;> simp) _ _ ?_; refine wpList_append_own_at _ rfl _ _ 28 rfl E 33 i1 (.slice none 0 0) 1 24 Try.underlying28 J.out Y0.out Y1.out Y2.out rfl (by decide) _ _ _ rfl (HU3.out.own.alloc _) ⟨X3.heap.size, 0, none⟩ 1 1 [.slice xa z.length xc] rfl rfl ?b1 ?b2 ?b3 ?b4 ?b5 ?_))
          case b1 => exact cell_one_new X3 _ _
          case b2 => intro u hu; simp at hu; subst hu; rfl
          case b3 => unfold maxLen; omega
          case b4 => have := KX3.out.size; omega
          case b5 => simp; have := KX3.out.size; omega
          intro v' w1 hown' hgrow _ hat
          have P := Lib.hid (PW.out v' w1 hown' hgrow (by simpa using hat))
          clear hown' hgrow hat
          obtain ⟨na, nc, rfl⟩ := P.out.form
          have d1 : w1.cell? ⟨E, 0, none⟩ = some (.slice va L.length vc) := P.out.box1.cell
          have f1 : w1.frozen? ⟨E, 0, none⟩ = false := P.out.box1.frozen
          clear c1
          go_wp2_with fail
          have hz := HZZ.out
          subst hz
          have hms := KX3.out.size
          refine LI.new (v' := .slice na (L.length + 1) nc) HFF.out HB0.out H4.out H5.out H6.out H10.out rfl (fun q hq => (HX.out.2.2 q hq).2.1) HE.out hmb hbxE hbm HX4.out HMM.out hsz (by omega) ?_ P.out.list P.out.box (fun b hb => ?_) (map_keeps HM3.out P.out.keeps ?_) H8.out
          · rw [HFF.out]
            exact (KX3.out.mono (fun b _ e => .inr (.inr e))).trans (P.out.keeps.mono (fun b _ e => by
              rcases e with e | e
              · exact .inl e
              · exact .inr (.inl e)))
          · rcases P.out.own b hb with h | h
            · exact .inl h
            · exact .inr (by omega)
          · rintro (e | e)
            · omega
            · exact own_ne_map HU3.out.own HM3.out e
      case hdone =>
        rintro D' xs F X hD' hS ⟨v, L, Dm, hF, hU, hb1, hb0, h4, h5, h6, h7, h8, h9, h10⟩ hdef
        rw [HD.out] at hD'
        subst hD'
        have hB1 : E < D' := by omega
        clear hBD
        obtain ⟨va, vc, rfl, hrr⟩ := hU.rrow
        unfold ARS at hS
        rw [hS, List.take_length] at h10
        have hDX : D' < X.heap.size := (Array.getElem?_eq_some_iff.1 hdef).1
        have hLl : L.length ≤ 1000 := by
          have e1 := congrArg List.length h10
          have e2 : (minusR s.2 K).length ≤ s.2.length := List.length_filter_le ..
          rw [List.length_map] at e1
          omega
        have FIN : Hid (∀ W', Keeps (fun b => b = D') X W' → StK N G W' g wd most segs d (.slice a segs.length cap) (.map (some mb)) (K ++ minusR s.2 K) ∧ Keeps (fun b => b = mb) V W') := Lib.hid (fun W' hk => by
          have k1 : Keeps (fun b => b = mb) V W' := h4.later hk (fun b e => .inr (by rw [HE.out]; omega))
          have e1 := congrArg List.length h10
          rw [List.length_map] at e1
          refine ⟨HS.out.learned k1 (D' := Dm) ?_ (by rw [← h10]; exact h8), k1⟩
          rw [List.length_append, ← e1]
          exact map_keeps h7 hk (by omega))
        have c1 : X.cell? ⟨E, 0, none⟩ = some (.slice va L.length vc) := hb1.cell
        have cB : X.cell? ⟨bx, 0, none⟩ = some (.pointer (some ⟨g, 0, none⟩)) := hb0.cell
        have cg : X.cell? ⟨g, 0, none⟩ = some (.int .i64 wd) := by
          obtain ⟨c0, _⟩ := HS.out.cells
          rw [World.cell?_of_block (a := ⟨g, 0, none⟩) (h4.block g HGL.out HGM.out)]; exact c0
        have hsX := HSN.out.step h4 (fun b e => HS.out.sub b (e ▸ HMN.out)) (fun b h => .inl h)
        have cl : ∀ q, Calls Try.prog 12 #[.pointer s.1] (X.drewN q) fun e w' => e = .returned (.int .i64 s.2.length) ∧ w' = X.drewN q := fun q => (segLen_calls (hsX.below (below_drewN (Below.refl _ X) q)).seg).mono fun e w' h => ⟨h.1, h.2.symm⟩
        have HRR := Lib.hid hrr
        have H10 := Lib.hid h10
        have HDEF := Lib.hid hdef
        have GLT : Hid (∀ b, G b → b < E) := Lib.hid (fun b hb => by rw [← HE.out]; exact HS.out.lt b hb)
        have HXB : Hid (E ≤ X.heap.size) := Lib.hid (by omega)
        have kq : ∀ W : World, Keeps (fun b => b = D') W (W.putObj D' (.deferred none)) := fun W => keeps_putObj (W := W) D' (.deferred none)
        clear hU hb1 hb0 h4 h5 h6 h7 h8 h10 hrr hF hS hsX
        by_cases hall : L.length = s.2.length
        · have t1 : ((L.length : Int) == (s.2.length : Int)) = true := by rw [hall]; exact beq_self_eq_true _
          have HALL := Lib.hid hall
          clear hall hdef
          go_wp2_with fail
          go_quiet ((exact Calls.quiet_of_same (cl _)))
          have hdef : (X.drewN nq).heap[D']? = some (.deferred (some [])) := HDEF.out
          have kX := Lib.hid (Keeps.of_below (N := fun b => b = D') (below_drewN (Below.refl X.heap.size X) nq))
          go_wp2_with fail
          refine ⟨by simp, .inl ⟨_, _, rfl, run_takeDeferred hdef, ?_⟩⟩
          obtain ⟨f1, f2⟩ := FIN.out _ (kX.out.trans (kq _))
          have e1 : minusR s.2 K = s.2 := by
            have e2 := congrArg List.length H10.out
            rw [List.length_map, HALL.out] at e2
            exact List.filter_eq_self.2 (List.length_filter_eq_length_iff.1 e2.symm)
          refine ⟨_, results_tmp rfl _ _ _, ?_⟩
          exact POST.out s.1 _ f1 (by rw [e1]; exact HSN.out.step f2 (fun b e => HS.out.sub b (e ▸ HMN.out)) (fun b h => .inl h)) f2
        · have t1 : ((L.length : Int) == (s.2.length : Int)) = false := beq_eq_false_iff_ne.2 (by omega)
          clear hall hdef
          go_wp2_with fail
          go_quiet ((exact Calls.quiet_of_same (cl _)))
          have c1' : (X.drewN nq).cell? ⟨E, 0, none⟩ = some (.slice va L.length vc) := c1
          have cB' : (X.drewN nq).cell? ⟨bx, 0, none⟩ = some (.pointer (some ⟨g, 0, none⟩)) := cB
          have cg' : (X.drewN nq).cell? ⟨g, 0, none⟩ = some (.int .i64 wd) := cg
          have hdef : (X.drewN nq).drew.heap[D']? = some (.deferred (some [])) := HDEF.out
          have bX : Below X.heap.size X (X.drewN nq).drew := below_drewN (below_drewN (Below.refl X.heap.size X) nq) 1
          have cm := make_later wd va vc L (X.drewN nq).drew (HRR.out.below bX) (by omega) hLl (fun x hx => by
            have h1 : x.2.1 ∈ L.map (·.2.1) := List.mem_map_of_mem hx
            rw [H10.out, mem_minus] at h1
            rw [HSW.out _ h1.1]; omega)
          have hrel : relOf (wd : Int) (L.map (·.2.1)) = minusR s.2 K := by
            rw [H10.out]
            exact sorted_ext (rel_sorted _ _) (minus_sorted HSS.out K) (fun x => by
              rw [mem_rel]
              exact ⟨fun h => h.1, fun h => ⟨h, by rw [HSW.out x ((mem_minus _ _ _).1 h).1]⟩⟩)
          rw [hrel] at cm
          have BX := Lib.hid bX
          have SZX : Hid ((X.drewN nq).drew.heap.size = X.heap.size) := Lib.hid rfl
          have HDEF2 := Lib.hid hdef
          clear c1 cB cg hrel bX hdef cl
          rename_i qd
          generalize World.drewN X nq = V0 at *
          go_wp2_with fail
          go_still_tail 5, (by kernel_rfl)
          change wpList _ _ _ _ _ (World.drew V0)
          generalize World.drew V0 = Vd at *
          go_wp2_with fail
          refine cm.mono ?_
          rintro e W ⟨p, rfl, hl, hb⟩
          have HL := Lib.hid hl
          have HW := Lib.hid hb
          clear cm hl hb
          go_wp2_with fail
          have hdef : W.heap[D']? = some (.deferred (some [])) := (HW.out.block D' (by have := SZX.out; omega)).trans HDEF2.out
          refine ⟨by simp, .inl ⟨_, _, rfl, run_takeDeferred hdef, ?_⟩⟩
          have kX := (Keeps.of_below (N := fun b => b = D') BX.out).trans (Keeps.of_below (N := fun b => b = D') HW.out)
          obtain ⟨f1, f2⟩ := FIN.out _ (kX.trans (kq _))
          refine ⟨_, results_tmp rfl _ _ _, ?_⟩
          exact POST.out p _ f1 ⟨Vd.heap.size, W, HL.out, ⟨(kq W).size, fun k h1 h2 => (kq W).block k h2 (by have := SZX.out; omega)⟩, fun b hb => .inl (by have := GLT.out b hb; have := HXB.out; have := SZX.out; omega)⟩ f2
      case hstop => rintro D' c xs X hD' hS h; exact h.elim
theorem learn_calls {N G : Nat → Prop} {w : World} {g wd : Nat} {most : Int} {segs : List SP} {d : SP} {rv kv : Value} {K : List (List Int)} (h : StK N G w g wd most segs d rv kv K) (hK : kv = .map none ∨ K.Perm (flatR segs)) {s : SP} (hs : SegN G w wd s) (hwd : wd ≤ 100) (hn : segs.length ≤ 1000) (hT : (flatR segs).length ≤ 1000) (hnd : (flatR segs).Nodup) (hrs : s.2.length ≤ 1000) (hTr : ∀ x ∈ flatR segs, InRange x) (hsr : ∀ x ∈ s.2, InRange x) :
    Calls Try.prog 49 #[.pointer (some ⟨g, 0, none⟩), .pointer s.1] w (LearnRet N G w g wd most segs d rv (flatR segs) s.2) := by
  rcases h.known with ⟨h1, h2⟩ | ⟨b, D, h1, h2, h3, h4⟩
  · subst h1
    exact learn0_calls h hs hwd hn hT hnd hrs hTr hsr
  · subst h1
    have hp : K.Perm (flatR segs) := by
      rcases hK with h5 | h5
      · cases h5
      · exact h5
    have e1 : minusR s.2 K = minusR s.2 (flatR segs) := by
      unfold minusR
      refine List.filter_congr (fun x hx => ?_)
      exact decide_eq_decide.2 (not_congr hp.mem_iff)
    refine (learnK_calls h hs hwd (by rw [hp.length_eq]; omega) hrs (fun x hx => hTr x (hp.mem_iff.1 hx)) hsr).mono ?_
    rintro e w' ⟨q, he, q1, q2, q3⟩
    have hge : (fun b => G b ∨ N b) = G := by
      funext b
      exact propext ⟨fun h9 => by
        rcases h9 with h9 | h9
        · exact h9
        · exact h.sub b h9, fun h9 => .inl h9⟩
    exact ⟨q, b, N, K ++ minusR s.2 K, he, by rw [e1]; exact hp.append_right _, fun _ h => h, fun _ h => .inl h, by rw [hge]; exact q1, by rw [hge, ← e1]; exact q2, q3.mono (fun k _ e => e ▸ h2)⟩
end Go.Proofs.Ytepkmhcchmladaa

