/- join's byKey, up to the sort. -/
import Derived.Test.YtcecndjkfdaaaaaJn2
namespace Go.Proofs.Ytcecndjkfdaaaaa
open Go.RowKit Go.Shelf
attribute [local go_sem] Oper.semAt_some
set_option linter.unusedVariables false
set_option linter.unusedSimpArgs false

theorem all_calls (p : Option Addr) (w : World) : Calls Try.prog 55 #[.pointer p] w (fun e w' => e = .returned (.func (.func 68) #[] #[.pointer (some ⟨w.heap.size, 0, none⟩)]) ∧ w' = w.alloc (.cells #[.pointer p] 27)) := by
  go_enter Try.func55, Try.ntmps55
  go_wp2_with fail
  go_ret
  exact ⟨rfl, rfl⟩
def toK (L : List KE) : List (List Int × Nat) := L.map fun e => (e.1.2.1, e.2)
def keysTo (rs : List (List Int)) (keys : List Int) (m : Nat) : List (List Int × Nat) := (List.range m).map fun i => (keyL (rowAt rs i) keys, i)
theorem keysTo_succ (rs : List (List Int)) (keys : List Int) (m : Nat) : keysTo rs keys (m + 1) = keysTo rs keys m ++ [(keyL (rowAt rs m) keys, m)] := by simp [keysTo, List.range_succ]
theorem toK_len (L : List KE) : (toK L).length = L.length := by simp [toK]
theorem keysTo_len (rs : List (List Int)) (keys : List Int) (m : Nat) : (keysTo rs keys m).length = m := by simp [keysTo]
theorem two_new (w : World) (x y : Value) (t : TypeId) : ∀ j u, [x, y][j]? = some u → (w.alloc (.cells #[x, y] t)).cell? ((⟨w.heap.size, 0, none⟩ : Addr).add j) = some u := by
  intro j u hj
  match j, hj with
  | 0, hj => simp at hj; subst hj; simp only [Addr.add, World.cell?]; simp only [if_true, World.alloc_heap_new]; rfl
  | 1, hj => simp at hj; subst hj; simp only [Addr.add, World.cell?]; simp only [if_neg (show ¬ (1 = 0) by decide), World.alloc_heap_new]; rfl
theorem KeepsOthers.of_heap {W W' : World} (h : W'.heap = W.heap) : KeepsOthers W W' := ⟨by rw [h]; exact Nat.le_refl _, fun k o hk _ => by rw [h]; exact hk⟩
theorem toK_push {rs : List (List Int)} {keys : List Int} {pre : List RV} {L : List KE} {x : RV} {ya : Option Addr} {yc : Nat} (h : toK L = keysTo rs keys pre.length) (hx : x.2.1 = rowAt rs pre.length) : toK (L ++ [((ya, keyL x.2.1 keys, yc), L.length)]) = keysTo rs keys (pre.length + [x].length) := by
  have hl := congrArg List.length h
  rw [toK_len, keysTo_len] at hl
  rw [show [x].length = 1 from rfl, keysTo_succ, ← h, ← hx, ← hl]
  simp [toK]
/-- In the order of keys and numbers. -/
def AscK (L : List KE) : Prop := L.Pairwise fun x y => cmpR x.1.2.1 y.1.2.1 < 0 ∨ x.1.2.1 = y.1.2.1 ∧ x.2 ≤ y.2
/-- What the sort of keyed rows leaves. -/
def KSortRet (B : Nat) (w : World) (v : Value) (L : List KE) (e : Ending) (w' : World) : Prop :=
  e = .returned (.tuple #[]) ∧ ∃ L', L'.Perm L ∧ AscK L' ∧ w'.ownsRow B 78 2 v L.length (flatK L') ∧ Keeps (fun b => v.ownBlock = some b) w w'
theorem keysTo_mem {rs : List (List Int)} {keys : List Int} {m : Nat} {y : List Int × Nat} (h : y ∈ keysTo rs keys m) : ∃ i, i < m ∧ y = (keyL (rowAt rs i) keys, i) := by
  obtain ⟨i, hi, e⟩ := List.mem_map.1 h
  exact ⟨i, List.mem_range.1 hi, e.symm⟩
/-- The keyed rows as they lie behind the call. -/
def KeyedRet (w : World) (ks : List (List Int × Nat)) (e : Ending) (w' : World) : Prop :=
  ∃ B b5 a cap L, w.heap.size ≤ B ∧ e = .returned (.slice a L.length cap) ∧ w'.ownsRow B 78 2 (.slice a L.length cap) L.length (flatK L) ∧ (∀ x ∈ L, KRead w' (.slice a L.length cap) b5 x) ∧ (toK L).Perm ks ∧ AscK L ∧ Below w.heap.size w w'
def SortHyp : Prop := ∀ (B b5 : Nat) (W : World) (v : Value) (L : List KE), W.ownsRow B 78 2 v L.length (flatK L) → (∀ x ∈ L, KRead W v b5 x) → L.length ≤ 1000 → (∀ x ∈ L, x.1.2.1.length ≤ 1000) → Calls Try.prog 72 #[v, .func (.func 73) #[] #[]] W (KSortRet B W v L)
set_option maxRecDepth 100000 in
set_option maxHeartbeats 4000000 in
theorem byKey_calls (hsort : SortHyp) {w : World} {p : Option Addr} {wd : Nat} {rs : List (List Int)} (hS : Seg w p wd rs) (a : Option Addr) (ca : Nat) (keys : List Int) (hk : Row w a keys) (hkl : keys.length ≤ 1000) (hwd : wd ≤ 1000) (hrs : rs.length ≤ 1000) :
    Calls Try.prog 62 #[.pointer p, .slice a keys.length ca] w (KeyedRet w (keysTo rs keys rs.length)) := by
  obtain ⟨i0, hi0, hz0, hz1, hz2⟩ := info_parts info78
  have I := Lib.hid hi0
  have Z0 := Lib.hid hz0
  have Z1 := Lib.hid hz1
  have Z2 := Lib.hid hz2
  obtain ⟨B, hB⟩ : ∃ B, w.heap.size = B := ⟨_, rfl⟩
  have HB := Lib.hid hB
  have HS := Lib.hid hS
  have HK := Lib.hid hk
  clear hi0 hz0 hz1 hz2 hB hS hk
  refine callsIn_wide.1 (callsIn_of_wp_marks (n := 9) Try.func62 rfl trivial (wpIn_wide.2 ?_) rfl)
  simp only [Try.ntmps62, List.size_toArray, List.length_cons, List.length_nil, Nat.reduceAdd, Nat.reduceSub, Array.replicate_succ, Array.replicate_zero, List.push_toArray, List.append_toArray, List.nil_append, List.cons_append]
  go_wp2_with fail
  have B0 := Lib.hid ((Below.refl B w).alloc (Nat.le_of_eq HB.out.symm) (.cells #[.slice a keys.length ca] 23))
  have K0 := Lib.hid (Boxed.new w 23 (.slice a keys.length ca))
  have S0 : Hid ((w.alloc (.cells #[.slice a keys.length ca] 23)).heap.size = B + 1) := Lib.hid (by simp [HB.out])
  rw [HB.out] at K0 ⊢
  generalize World.alloc w _ = w0 at *
  have cl := segLen_calls (HS.out.belowB HB.out B0.out)
  refine cl.mono ?_
  rintro e w' ⟨rfl, rfl⟩
  clear cl
  go_wp2_with (first | (refine wpList_make_own _ rfl _ _ 76 rfl B 78 i0 (.agg #[.slice none 0 0, .int .i64 0]) 2 Try.underlying76 I.out Z0.out Z1.out .i64 .i64 _ rs.length rfl rfl ?m0 ?m1 ?m2 ?m3 ?_))
  case m0 => first | rfl | (simp; omega) | omega
  case m1 => rw [Z2.out]; omega
  case m2 => unfold maxLen; omega
  case m3 => rw [S0.out]; omega
  intro w1 hown hgrow
  have O1 := Lib.hid hown
  have K1 := Lib.hid (K0.out.kept hgrow (by simp))
  have B1 := Lib.hid (B0.out.grown hgrow (by rw [S0.out]; omega) (fun k e => by cases e))
  have V1 : Hid (some (B + 1) = (Value.slice (some ⟨w0.heap.size, 0, none⟩) 0 rs.length).ownBlock) := Lib.hid (by simp [Value.ownBlock, S0.out])
  have L1 : Hid (B + 1 < w1.heap.size) := Lib.hid (by have := (hown.lt _ V1.out.symm).2; exact this)
  rw [S0.out] at O1 ⊢
  clear hown hgrow V1 S0 K0 B0
  obtain ⟨b5, h5⟩ : ∃ b, w1.heap.size = b := ⟨_, rfl⟩
  have H5 := Lib.hid h5
  have B2 := Lib.hid (B1.out.alloc (by have := L1.out; omega) (.cells #[.slice (some ⟨B + 1, 0, none⟩) 0 rs.length] 76))
  have X2 := Lib.hid (Boxed.new w1 76 (.slice (some ⟨B + 1, 0, none⟩) 0 rs.length))
  have K2 := Lib.hid (K1.out.alloc (.cells #[.slice (some ⟨B + 1, 0, none⟩) 0 rs.length] 76))
  have O2 := Lib.hid (O1.out.alloc (.cells #[.slice (some ⟨B + 1, 0, none⟩) 0 rs.length] 76))
  have N2 : Hid ((w1.alloc (.cells #[.slice (some ⟨B + 1, 0, none⟩) 0 rs.length] 76)).heap.size = b5 + 1) := Lib.hid (by simp [h5])
  clear h5 K1 B1 O1
  go_wp2_with fail
  rw [H5.out] at X2 L1 ⊢
  generalize World.alloc w1 _ = w2 at *
  refine (all_calls p w2).mono ?_
  rintro e w' ⟨rfl, rfl⟩
  rw [N2.out]
  have B3 := Lib.hid (B2.out.alloc (by have := L1.out; have := N2.out; omega) (.cells #[.pointer p] 27))
  have X3 := Lib.hid (X2.out.alloc (.cells #[.pointer p] 27))
  have K3 := Lib.hid (K2.out.alloc (.cells #[.pointer p] 27))
  have O3 := Lib.hid (O2.out.alloc (.cells #[.pointer p] 27))
  have P3 := Lib.hid (Boxed.new w2 27 (.pointer p))
  have N3 : Hid ((w2.alloc (.cells #[.pointer p] 27)).heap.size = b5 + 2) := Lib.hid (by simp [N2.out])
  rw [N2.out] at P3
  generalize World.alloc w2 _ = W at *
  clear X2 K2 O2 B2 N2 H5
  go_wp2_with fail
  have h15 := L1.out
  refine (wpIn_wide (n := 9)).1 ?_
  refine range_loop (α := RV) (gf := 68) (lb := #[.pointer (some ⟨b5 + 1, 0, none⟩)]) rfl (enters_of Try.func68 (by kernel_rfl) rfl) (encs := fun x => #[encV x]) (fun _ => rfl) (B := B) (by have := N3.out; omega) (RX rs) (fun pre X => ∃ L, BK B B b5 (b5 + 1) w p a ca keys.length X L ∧ toK L = keysTo rs keys pre.length) (fun xs => xs.length = rs.length)
    ?hI ?hR ?h0 ?hiter (fun x => { tmps := #[.pointer p, .slice a keys.length ca, undef, .pointer (some ⟨B, 0, none⟩), .slice none 0 0, .pointer (some ⟨b5, 0, none⟩), encV x, .pointer p, .int .i64 rs.length, .slice (some ⟨B + 1, 0, none⟩) 0 rs.length, .pointer p, .func (.func 68) #[] #[.pointer (some ⟨b5 + 1, 0, none⟩)], encV x, undef, undef, undef, undef, undef, undef, undef, undef, undef, undef, undef, undef], defers := [] }) ?hassign ?hbody ?hdone
  case hI => rintro pre X X' ⟨L, h1, h2⟩ hk; exact ⟨L, h1.kc (h1.size HB.out) hk, h2⟩
  case hR => rintro pre x X X' ⟨h1, h2, h3, h4⟩ hk; exact ⟨h1, h2.kc hk, h3, h4⟩
  case h0 => exact ⟨[], ⟨⟨_, X3.out, O3.out, fun x hx => by cases hx⟩, K3.out, P3.out, B3.out⟩, rfl⟩
  case hiter =>
    intro l J X hJI hJb hY hJ0
    exact all1_in _ l (b5 + 1) p wd rs J hwd hrs (fun pre X h => by obtain ⟨L, h1, _⟩ := hJI _ _ h; exact ⟨h1.ptr.cell, HS.out.belowB HB.out h1.below⟩) hJb hY X hJ0
  case hassign => intro l x X K hK; gi_wp2; exact hK
  case hbody =>
    rintro l pre x X ⟨L, hL, hKt⟩ ⟨hx1, hx2, hx3, hpre⟩
    obtain ⟨v, hv, hrow, hr⟩ := hL.v
    obtain ⟨hks, hpt, hbl⟩ : Boxed X B 23 (.slice a keys.length ca) ∧ Boxed X (b5 + 1) 27 (.pointer p) ∧ Below B w X := ⟨hL.ks, hL.ptr, hL.below⟩
    have hBW := hL.size HB.out
    obtain ⟨av, cv, rfl⟩ : ∃ av cv, v = .slice av L.length cv := by
      rcases hrow.2 with ⟨e1, e2⟩ | ⟨g, cap, cur, e1, _⟩
      · exact ⟨none, 0, by rw [e2]; exact e1⟩
      · exact ⟨_, _, e1⟩
    have hLl : L.length ≤ 1000 := by have h1 := congrArg List.length hKt; rw [toK_len, keysTo_len] at h1; have h2 := hpre; omega
    have hkr := HK.out.belowB HB.out hbl
    have hxl : x.2.1.length ≤ 1000 := by rw [hx1, HS.out.2.1 _ (rowAt_mem hpre)]; exact hwd
    have h5B : B ≤ b5 := by omega
    refine wpIn_block (wpIn_region_any (by kernel_rfl) (anyIn_of_any l _ (fun i o h c => by have hm := Array.mem_of_getElem? h; simp at hm; rcases hm with rfl | rfl | rfl | rfl | rfl | rfl | rfl | rfl | rfl | rfl <;> simp) (fun h => by obtain ⟨a1, w1, h⟩ := h; simp [Exit.inBlock, goesOn] at h) _ _ _ _ ?_))
    obtain ⟨Wd, hW⟩ : ∃ Wd : World, { heap := X.heap, tape := X.tape, drawn := X.drawn + 1, os := X.os, output := X.output } = Wd := ⟨_, rfl⟩
    have hWd : Wd.heap = X.heap := by rw [← hW]
    rw [hW]
    replace hv : Boxed Wd b5 76 (.slice av L.length cv) := by rw [← hW]; exact hv
    replace hrow : Wd.ownsRow B 78 2 (.slice av L.length cv) L.length (flatK L) := by rw [← hW]; exact hrow
    replace hr : ∀ x ∈ L, KRead Wd (.slice av L.length cv) b5 x := by rw [← hW]; exact hr
    replace hks : Boxed Wd B 23 (.slice a keys.length ca) := by rw [← hW]; exact hks
    replace hpt : Boxed Wd (b5 + 1) 27 (.pointer p) := by rw [← hW]; exact hpt
    replace hbl : Below B w Wd := by rw [← hW]; exact hbl.drew
    replace hBW : B ≤ Wd.heap.size := by rw [hWd]; exact hBW
    have c3 := hks.cell
    have c4 := hv.cell
    have ck := keyF_calls x.1 a x.2.2 ca x.2.1 keys Wd (by rw [← hW]; exact hx2) (by rw [← hW]; exact hkr) (by omega) (by omega)
    clear hW hL
    have HV := Lib.hid hv
    have HRO := Lib.hid hrow
    have HRR := Lib.hid hr
    have HKS := Lib.hid hks
    have HPT := Lib.hid hpt
    have HBL := Lib.hid hbl
    have HBW := Lib.hid hBW
    have HX1 := Lib.hid hx1
    have HKT := Lib.hid hKt
    have HWD := Lib.hid hWd
    have HLL := Lib.hid hLl
    clear hv hrow hr hks hpt hbl hBW hx1 hKt hWd hkr hxl hx2 hx3 hpre hLl
    dsimp only [encV]
    refine wpAny_take (i := 1) (oi := ⟨some 14, _, _, _, _, _⟩) (v := .slice x.1 x.2.1.length x.2.2) rfl (by kernel_rfl) (by kernel_rfl) (by kernel_rfl) (fun _ _ _ h => h) (Or.inl ⟨by rfl, fun w => by go_simp⟩) ?_
    try simp only [Act.put, List.setIfInBounds_toArray, List.set_cons_zero, List.set_cons_succ]
    refine wpAny_ready (rs := [0, 2, 4]) (by kernel_rfl) (by simp) ?_
    refine AllReady.cons (o := ⟨some 13, _, _, _, _, _⟩) rfl (fun K hK => ?_) ?_
    · go_simp
      refine hK _ _ ?_
      clear hK K
      try simp only [Act.put, List.setIfInBounds_toArray, List.set_cons_zero, List.set_cons_succ]
      refine wpAny_ready (rs := [2, 4]) (by kernel_rfl) (by simp) ?_
      refine AllReady.cons (o := ⟨some 15, _, _, _, _, _⟩) rfl (fun K hK => ?_) ?_
      · go_simp
        refine hK _ _ ?_
        clear hK K
        try simp only [Act.put, List.setIfInBounds_toArray, List.set_cons_zero, List.set_cons_succ]
        refine wpAny_ready (rs := [3, 4]) (by kernel_rfl) (by simp) ?_
        refine AllReady.cons (o := ⟨some 16, _, _, _, _, _⟩) rfl (fun K hK => ?_) ?_
        · go_simp
          refine (ck).mono ?_
          rintro e W1 ⟨ya, yc, rfl, hy1, hy2, hy3, hb1⟩
          have c5 := (Boxed.kc HV.out (KC.of_below (B := B) hb1)).cell
          have hne : ¬ b5 = W1.heap.size := by have h1 := HV.out.lt; have h2 := hb1.size; omega
          have c6 : ∀ o, (W1.alloc o).cell? ⟨b5, 0, none⟩ = some (.slice av L.length cv) := fun o => ((Boxed.kc HV.out (KC.of_below (B := B) hb1)).alloc o).cell
          refine hK _ _ ?_
          clear hK K
          try simp only [Act.put, List.setIfInBounds_toArray, List.set_cons_zero, List.set_cons_succ]
          refine wpAny_ready (rs := [4]) (by kernel_rfl) (by simp) ?_
          refine AllReady.cons (o := ⟨some 17, _, _, _, _, _⟩) rfl (fun K hK => ?_) ?_
          · go_simp
            refine hK _ _ ?_
            clear hK K
            try simp only [Act.put, List.setIfInBounds_toArray, List.set_cons_zero, List.set_cons_succ]
            refine wpAny_take (i := 5) (oi := ⟨some 18, _, _, _, _, _⟩) (v := .int .i64 L.length) rfl (by kernel_rfl) (by kernel_rfl) (by kernel_rfl) (fun _ _ _ h => h) (Or.inl ⟨by rfl, fun w => by go_simp⟩) ?_
            try simp only [Act.put, List.setIfInBounds_toArray, List.set_cons_zero, List.set_cons_succ]
            refine wpAny_take (i := 6) (oi := ⟨some 19, _, _, _, _, _⟩) (v := .agg #[.slice ya (keyL x.2.1 keys).length yc, .int .i64 L.length]) rfl (by kernel_rfl) (by kernel_rfl) (by kernel_rfl) (fun _ _ _ h => h) (Or.inl ⟨by rfl, fun w => by go_simp⟩) ?_
            try simp only [Act.put, List.setIfInBounds_toArray, List.set_cons_zero, List.set_cons_succ]
            refine wpAny_ready (rs := [7]) (by kernel_rfl) (by simp) ?_
            refine AllReady.cons (o := ⟨some 20, _, _, _, _, _⟩) rfl (fun K hK => ?_) ?_
            · go_simp
              refine hK _ _ ?_
              clear hK K
              try simp only [Act.put, List.setIfInBounds_toArray, List.set_cons_zero, List.set_cons_succ]
              refine wpAny_ready (rs := [8]) (by kernel_rfl) (by simp) ?_
              refine AllReady.cons (o := ⟨some 21, _, _, _, _, _⟩) rfl (fun K hK => ?_) ?_
              · rw [if_pos (by kernel_rfl)]
                refine wp_append_own_at _ _ _ 76 rfl B 78 i0 _ 2 32 Try.underlying76 I.out Z0.out Z1.out Z2.out rfl (by decide) _ _ _ rfl ((owns_kc HRO.out (KC.of_below (B := B) hb1)).alloc _) ⟨W1.heap.size, 0, none⟩ 1 1 [.slice ya (keyL x.2.1 keys).length yc, .int .i64 L.length] rfl rfl (two_new W1 _ _ _) (by intro u hu; simp at hu; rcases hu with rfl | rfl <;> rfl) (by have := HLL.out; unfold maxLen; omega) (by have := HLL.out; omega) (by have h2 := hb1.size; have h3 := HBW.out; simp; omega) ?_
                intro v' w3 hown hgrow hat
                obtain ⟨q1, q2, q3⟩ := bk_push (x := ((ya, keyL x.2.1 keys, yc), L.length)) HBW.out h5B (by have := h15; omega) (by omega) HV.out HRO.out HRR.out HKS.out HPT.out HBL.out hb1 hy1 hy2 hy3 hown hgrow hat
                obtain ⟨g', cap', rfl⟩ := ownsRow_succ hown
                have c7 := q1.cell
                have f7 := q1.frozen
                refine hK _ _ ?_
                clear hK K
                try simp only [Act.put, List.setIfInBounds_toArray, List.set_cons_zero, List.set_cons_succ]
                refine wpAny_ready (rs := [9]) (by kernel_rfl) (by simp) ?_
                refine AllReady.cons (o := ⟨none, _, _, _, _, _⟩) rfl (fun K hK => ?_) ?_
                · go_simp
                  refine hK _ _ ?_
                  clear hK K
                  try simp only [Act.put, List.setIfInBounds_toArray, List.set_cons_zero, List.set_cons_succ]
                  refine wpAny_done (by kernel_rfl) ?_ _
                  exact ⟨rfl, (KeepsOthers.of_heap HWD.out).trans q2, _, q3, by rw [List.length_append]; exact toK_push HKT.out HX1.out⟩
                exact AllReady.nil
              exact AllReady.nil
            exact AllReady.nil
          exact AllReady.nil
        refine AllReady.cons (o := ⟨some 17, _, _, _, _, _⟩) rfl (fun K hK => ?_) ?_
        · go_simp
          refine hK _ _ ?_
          clear hK K
          try simp only [Act.put, List.setIfInBounds_toArray, List.set_cons_zero, List.set_cons_succ]
          refine wpAny_take (i := 5) (oi := ⟨some 18, _, _, _, _, _⟩) (v := .int .i64 L.length) rfl (by kernel_rfl) (by kernel_rfl) (by kernel_rfl) (fun _ _ _ h => h) (Or.inl ⟨by rfl, fun w => by go_simp⟩) ?_
          try simp only [Act.put, List.setIfInBounds_toArray, List.set_cons_zero, List.set_cons_succ]
          refine wpAny_ready (rs := [3]) (by kernel_rfl) (by simp) ?_
          refine AllReady.cons (o := ⟨some 16, _, _, _, _, _⟩) rfl (fun K hK => ?_) ?_
          · go_simp
            refine (ck).mono ?_
            rintro e W1 ⟨ya, yc, rfl, hy1, hy2, hy3, hb1⟩
            have c5 := (Boxed.kc HV.out (KC.of_below (B := B) hb1)).cell
            have hne : ¬ b5 = W1.heap.size := by have h1 := HV.out.lt; have h2 := hb1.size; omega
            have c6 : ∀ o, (W1.alloc o).cell? ⟨b5, 0, none⟩ = some (.slice av L.length cv) := fun o => ((Boxed.kc HV.out (KC.of_below (B := B) hb1)).alloc o).cell
            refine hK _ _ ?_
            clear hK K
            try simp only [Act.put, List.setIfInBounds_toArray, List.set_cons_zero, List.set_cons_succ]
            refine wpAny_take (i := 6) (oi := ⟨some 19, _, _, _, _, _⟩) (v := .agg #[.slice ya (keyL x.2.1 keys).length yc, .int .i64 L.length]) rfl (by kernel_rfl) (by kernel_rfl) (by kernel_rfl) (fun _ _ _ h => h) (Or.inl ⟨by rfl, fun w => by go_simp⟩) ?_
            try simp only [Act.put, List.setIfInBounds_toArray, List.set_cons_zero, List.set_cons_succ]
            refine wpAny_ready (rs := [7]) (by kernel_rfl) (by simp) ?_
            refine AllReady.cons (o := ⟨some 20, _, _, _, _, _⟩) rfl (fun K hK => ?_) ?_
            · go_simp
              refine hK _ _ ?_
              clear hK K
              try simp only [Act.put, List.setIfInBounds_toArray, List.set_cons_zero, List.set_cons_succ]
              refine wpAny_ready (rs := [8]) (by kernel_rfl) (by simp) ?_
              refine AllReady.cons (o := ⟨some 21, _, _, _, _, _⟩) rfl (fun K hK => ?_) ?_
              · rw [if_pos (by kernel_rfl)]
                refine wp_append_own_at _ _ _ 76 rfl B 78 i0 _ 2 32 Try.underlying76 I.out Z0.out Z1.out Z2.out rfl (by decide) _ _ _ rfl ((owns_kc HRO.out (KC.of_below (B := B) hb1)).alloc _) ⟨W1.heap.size, 0, none⟩ 1 1 [.slice ya (keyL x.2.1 keys).length yc, .int .i64 L.length] rfl rfl (two_new W1 _ _ _) (by intro u hu; simp at hu; rcases hu with rfl | rfl <;> rfl) (by have := HLL.out; unfold maxLen; omega) (by have := HLL.out; omega) (by have h2 := hb1.size; have h3 := HBW.out; simp; omega) ?_
                intro v' w3 hown hgrow hat
                obtain ⟨q1, q2, q3⟩ := bk_push (x := ((ya, keyL x.2.1 keys, yc), L.length)) HBW.out h5B (by have := h15; omega) (by omega) HV.out HRO.out HRR.out HKS.out HPT.out HBL.out hb1 hy1 hy2 hy3 hown hgrow hat
                obtain ⟨g', cap', rfl⟩ := ownsRow_succ hown
                have c7 := q1.cell
                have f7 := q1.frozen
                refine hK _ _ ?_
                clear hK K
                try simp only [Act.put, List.setIfInBounds_toArray, List.set_cons_zero, List.set_cons_succ]
                refine wpAny_ready (rs := [9]) (by kernel_rfl) (by simp) ?_
                refine AllReady.cons (o := ⟨none, _, _, _, _, _⟩) rfl (fun K hK => ?_) ?_
                · go_simp
                  refine hK _ _ ?_
                  clear hK K
                  try simp only [Act.put, List.setIfInBounds_toArray, List.set_cons_zero, List.set_cons_succ]
                  refine wpAny_done (by kernel_rfl) ?_ _
                  exact ⟨rfl, (KeepsOthers.of_heap HWD.out).trans q2, _, q3, by rw [List.length_append]; exact toK_push HKT.out HX1.out⟩
                exact AllReady.nil
              exact AllReady.nil
            exact AllReady.nil
          exact AllReady.nil
        exact AllReady.nil
      refine AllReady.cons (o := ⟨some 17, _, _, _, _, _⟩) rfl (fun K hK => ?_) ?_
      · go_simp
        refine hK _ _ ?_
        clear hK K
        try simp only [Act.put, List.setIfInBounds_toArray, List.set_cons_zero, List.set_cons_succ]
        refine wpAny_take (i := 5) (oi := ⟨some 18, _, _, _, _, _⟩) (v := .int .i64 L.length) rfl (by kernel_rfl) (by kernel_rfl) (by kernel_rfl) (fun _ _ _ h => h) (Or.inl ⟨by rfl, fun w => by go_simp⟩) ?_
        try simp only [Act.put, List.setIfInBounds_toArray, List.set_cons_zero, List.set_cons_succ]
        refine wpAny_ready (rs := [2]) (by kernel_rfl) (by simp) ?_
        refine AllReady.cons (o := ⟨some 15, _, _, _, _, _⟩) rfl (fun K hK => ?_) ?_
        · go_simp
          refine hK _ _ ?_
          clear hK K
          try simp only [Act.put, List.setIfInBounds_toArray, List.set_cons_zero, List.set_cons_succ]
          refine wpAny_ready (rs := [3]) (by kernel_rfl) (by simp) ?_
          refine AllReady.cons (o := ⟨some 16, _, _, _, _, _⟩) rfl (fun K hK => ?_) ?_
          · go_simp
            refine (ck).mono ?_
            rintro e W1 ⟨ya, yc, rfl, hy1, hy2, hy3, hb1⟩
            have c5 := (Boxed.kc HV.out (KC.of_below (B := B) hb1)).cell
            have hne : ¬ b5 = W1.heap.size := by have h1 := HV.out.lt; have h2 := hb1.size; omega
            have c6 : ∀ o, (W1.alloc o).cell? ⟨b5, 0, none⟩ = some (.slice av L.length cv) := fun o => ((Boxed.kc HV.out (KC.of_below (B := B) hb1)).alloc o).cell
            refine hK _ _ ?_
            clear hK K
            try simp only [Act.put, List.setIfInBounds_toArray, List.set_cons_zero, List.set_cons_succ]
            refine wpAny_take (i := 6) (oi := ⟨some 19, _, _, _, _, _⟩) (v := .agg #[.slice ya (keyL x.2.1 keys).length yc, .int .i64 L.length]) rfl (by kernel_rfl) (by kernel_rfl) (by kernel_rfl) (fun _ _ _ h => h) (Or.inl ⟨by rfl, fun w => by go_simp⟩) ?_
            try simp only [Act.put, List.setIfInBounds_toArray, List.set_cons_zero, List.set_cons_succ]
            refine wpAny_ready (rs := [7]) (by kernel_rfl) (by simp) ?_
            refine AllReady.cons (o := ⟨some 20, _, _, _, _, _⟩) rfl (fun K hK => ?_) ?_
            · go_simp
              refine hK _ _ ?_
              clear hK K
              try simp only [Act.put, List.setIfInBounds_toArray, List.set_cons_zero, List.set_cons_succ]
              refine wpAny_ready (rs := [8]) (by kernel_rfl) (by simp) ?_
              refine AllReady.cons (o := ⟨some 21, _, _, _, _, _⟩) rfl (fun K hK => ?_) ?_
              · rw [if_pos (by kernel_rfl)]
                refine wp_append_own_at _ _ _ 76 rfl B 78 i0 _ 2 32 Try.underlying76 I.out Z0.out Z1.out Z2.out rfl (by decide) _ _ _ rfl ((owns_kc HRO.out (KC.of_below (B := B) hb1)).alloc _) ⟨W1.heap.size, 0, none⟩ 1 1 [.slice ya (keyL x.2.1 keys).length yc, .int .i64 L.length] rfl rfl (two_new W1 _ _ _) (by intro u hu; simp at hu; rcases hu with rfl | rfl <;> rfl) (by have := HLL.out; unfold maxLen; omega) (by have := HLL.out; omega) (by have h2 := hb1.size; have h3 := HBW.out; simp; omega) ?_
                intro v' w3 hown hgrow hat
                obtain ⟨q1, q2, q3⟩ := bk_push (x := ((ya, keyL x.2.1 keys, yc), L.length)) HBW.out h5B (by have := h15; omega) (by omega) HV.out HRO.out HRR.out HKS.out HPT.out HBL.out hb1 hy1 hy2 hy3 hown hgrow hat
                obtain ⟨g', cap', rfl⟩ := ownsRow_succ hown
                have c7 := q1.cell
                have f7 := q1.frozen
                refine hK _ _ ?_
                clear hK K
                try simp only [Act.put, List.setIfInBounds_toArray, List.set_cons_zero, List.set_cons_succ]
                refine wpAny_ready (rs := [9]) (by kernel_rfl) (by simp) ?_
                refine AllReady.cons (o := ⟨none, _, _, _, _, _⟩) rfl (fun K hK => ?_) ?_
                · go_simp
                  refine hK _ _ ?_
                  clear hK K
                  try simp only [Act.put, List.setIfInBounds_toArray, List.set_cons_zero, List.set_cons_succ]
                  refine wpAny_done (by kernel_rfl) ?_ _
                  exact ⟨rfl, (KeepsOthers.of_heap HWD.out).trans q2, _, q3, by rw [List.length_append]; exact toK_push HKT.out HX1.out⟩
                exact AllReady.nil
              exact AllReady.nil
            exact AllReady.nil
          exact AllReady.nil
        exact AllReady.nil
      exact AllReady.nil
    refine AllReady.cons (o := ⟨some 15, _, _, _, _, _⟩) rfl (fun K hK => ?_) ?_
    · go_simp
      refine hK _ _ ?_
      clear hK K
      try simp only [Act.put, List.setIfInBounds_toArray, List.set_cons_zero, List.set_cons_succ]
      refine wpAny_ready (rs := [0, 3, 4]) (by kernel_rfl) (by simp) ?_
      refine AllReady.cons (o := ⟨some 13, _, _, _, _, _⟩) rfl (fun K hK => ?_) ?_
      · go_simp
        refine hK _ _ ?_
        clear hK K
        try simp only [Act.put, List.setIfInBounds_toArray, List.set_cons_zero, List.set_cons_succ]
        refine wpAny_ready (rs := [3, 4]) (by kernel_rfl) (by simp) ?_
        refine AllReady.cons (o := ⟨some 16, _, _, _, _, _⟩) rfl (fun K hK => ?_) ?_
        · go_simp
          refine (ck).mono ?_
          rintro e W1 ⟨ya, yc, rfl, hy1, hy2, hy3, hb1⟩
          have c5 := (Boxed.kc HV.out (KC.of_below (B := B) hb1)).cell
          have hne : ¬ b5 = W1.heap.size := by have h1 := HV.out.lt; have h2 := hb1.size; omega
          have c6 : ∀ o, (W1.alloc o).cell? ⟨b5, 0, none⟩ = some (.slice av L.length cv) := fun o => ((Boxed.kc HV.out (KC.of_below (B := B) hb1)).alloc o).cell
          refine hK _ _ ?_
          clear hK K
          try simp only [Act.put, List.setIfInBounds_toArray, List.set_cons_zero, List.set_cons_succ]
          refine wpAny_ready (rs := [4]) (by kernel_rfl) (by simp) ?_
          refine AllReady.cons (o := ⟨some 17, _, _, _, _, _⟩) rfl (fun K hK => ?_) ?_
          · go_simp
            refine hK _ _ ?_
            clear hK K
            try simp only [Act.put, List.setIfInBounds_toArray, List.set_cons_zero, List.set_cons_succ]
            refine wpAny_take (i := 5) (oi := ⟨some 18, _, _, _, _, _⟩) (v := .int .i64 L.length) rfl (by kernel_rfl) (by kernel_rfl) (by kernel_rfl) (fun _ _ _ h => h) (Or.inl ⟨by rfl, fun w => by go_simp⟩) ?_
            try simp only [Act.put, List.setIfInBounds_toArray, List.set_cons_zero, List.set_cons_succ]
            refine wpAny_take (i := 6) (oi := ⟨some 19, _, _, _, _, _⟩) (v := .agg #[.slice ya (keyL x.2.1 keys).length yc, .int .i64 L.length]) rfl (by kernel_rfl) (by kernel_rfl) (by kernel_rfl) (fun _ _ _ h => h) (Or.inl ⟨by rfl, fun w => by go_simp⟩) ?_
            try simp only [Act.put, List.setIfInBounds_toArray, List.set_cons_zero, List.set_cons_succ]
            refine wpAny_ready (rs := [7]) (by kernel_rfl) (by simp) ?_
            refine AllReady.cons (o := ⟨some 20, _, _, _, _, _⟩) rfl (fun K hK => ?_) ?_
            · go_simp
              refine hK _ _ ?_
              clear hK K
              try simp only [Act.put, List.setIfInBounds_toArray, List.set_cons_zero, List.set_cons_succ]
              refine wpAny_ready (rs := [8]) (by kernel_rfl) (by simp) ?_
              refine AllReady.cons (o := ⟨some 21, _, _, _, _, _⟩) rfl (fun K hK => ?_) ?_
              · rw [if_pos (by kernel_rfl)]
                refine wp_append_own_at _ _ _ 76 rfl B 78 i0 _ 2 32 Try.underlying76 I.out Z0.out Z1.out Z2.out rfl (by decide) _ _ _ rfl ((owns_kc HRO.out (KC.of_below (B := B) hb1)).alloc _) ⟨W1.heap.size, 0, none⟩ 1 1 [.slice ya (keyL x.2.1 keys).length yc, .int .i64 L.length] rfl rfl (two_new W1 _ _ _) (by intro u hu; simp at hu; rcases hu with rfl | rfl <;> rfl) (by have := HLL.out; unfold maxLen; omega) (by have := HLL.out; omega) (by have h2 := hb1.size; have h3 := HBW.out; simp; omega) ?_
                intro v' w3 hown hgrow hat
                obtain ⟨q1, q2, q3⟩ := bk_push (x := ((ya, keyL x.2.1 keys, yc), L.length)) HBW.out h5B (by have := h15; omega) (by omega) HV.out HRO.out HRR.out HKS.out HPT.out HBL.out hb1 hy1 hy2 hy3 hown hgrow hat
                obtain ⟨g', cap', rfl⟩ := ownsRow_succ hown
                have c7 := q1.cell
                have f7 := q1.frozen
                refine hK _ _ ?_
                clear hK K
                try simp only [Act.put, List.setIfInBounds_toArray, List.set_cons_zero, List.set_cons_succ]
                refine wpAny_ready (rs := [9]) (by kernel_rfl) (by simp) ?_
                refine AllReady.cons (o := ⟨none, _, _, _, _, _⟩) rfl (fun K hK => ?_) ?_
                · go_simp
                  refine hK _ _ ?_
                  clear hK K
                  try simp only [Act.put, List.setIfInBounds_toArray, List.set_cons_zero, List.set_cons_succ]
                  refine wpAny_done (by kernel_rfl) ?_ _
                  exact ⟨rfl, (KeepsOthers.of_heap HWD.out).trans q2, _, q3, by rw [List.length_append]; exact toK_push HKT.out HX1.out⟩
                exact AllReady.nil
              exact AllReady.nil
            exact AllReady.nil
          exact AllReady.nil
        refine AllReady.cons (o := ⟨some 17, _, _, _, _, _⟩) rfl (fun K hK => ?_) ?_
        · go_simp
          refine hK _ _ ?_
          clear hK K
          try simp only [Act.put, List.setIfInBounds_toArray, List.set_cons_zero, List.set_cons_succ]
          refine wpAny_take (i := 5) (oi := ⟨some 18, _, _, _, _, _⟩) (v := .int .i64 L.length) rfl (by kernel_rfl) (by kernel_rfl) (by kernel_rfl) (fun _ _ _ h => h) (Or.inl ⟨by rfl, fun w => by go_simp⟩) ?_
          try simp only [Act.put, List.setIfInBounds_toArray, List.set_cons_zero, List.set_cons_succ]
          refine wpAny_ready (rs := [3]) (by kernel_rfl) (by simp) ?_
          refine AllReady.cons (o := ⟨some 16, _, _, _, _, _⟩) rfl (fun K hK => ?_) ?_
          · go_simp
            refine (ck).mono ?_
            rintro e W1 ⟨ya, yc, rfl, hy1, hy2, hy3, hb1⟩
            have c5 := (Boxed.kc HV.out (KC.of_below (B := B) hb1)).cell
            have hne : ¬ b5 = W1.heap.size := by have h1 := HV.out.lt; have h2 := hb1.size; omega
            have c6 : ∀ o, (W1.alloc o).cell? ⟨b5, 0, none⟩ = some (.slice av L.length cv) := fun o => ((Boxed.kc HV.out (KC.of_below (B := B) hb1)).alloc o).cell
            refine hK _ _ ?_
            clear hK K
            try simp only [Act.put, List.setIfInBounds_toArray, List.set_cons_zero, List.set_cons_succ]
            refine wpAny_take (i := 6) (oi := ⟨some 19, _, _, _, _, _⟩) (v := .agg #[.slice ya (keyL x.2.1 keys).length yc, .int .i64 L.length]) rfl (by kernel_rfl) (by kernel_rfl) (by kernel_rfl) (fun _ _ _ h => h) (Or.inl ⟨by rfl, fun w => by go_simp⟩) ?_
            try simp only [Act.put, List.setIfInBounds_toArray, List.set_cons_zero, List.set_cons_succ]
            refine wpAny_ready (rs := [7]) (by kernel_rfl) (by simp) ?_
            refine AllReady.cons (o := ⟨some 20, _, _, _, _, _⟩) rfl (fun K hK => ?_) ?_
            · go_simp
              refine hK _ _ ?_
              clear hK K
              try simp only [Act.put, List.setIfInBounds_toArray, List.set_cons_zero, List.set_cons_succ]
              refine wpAny_ready (rs := [8]) (by kernel_rfl) (by simp) ?_
              refine AllReady.cons (o := ⟨some 21, _, _, _, _, _⟩) rfl (fun K hK => ?_) ?_
              · rw [if_pos (by kernel_rfl)]
                refine wp_append_own_at _ _ _ 76 rfl B 78 i0 _ 2 32 Try.underlying76 I.out Z0.out Z1.out Z2.out rfl (by decide) _ _ _ rfl ((owns_kc HRO.out (KC.of_below (B := B) hb1)).alloc _) ⟨W1.heap.size, 0, none⟩ 1 1 [.slice ya (keyL x.2.1 keys).length yc, .int .i64 L.length] rfl rfl (two_new W1 _ _ _) (by intro u hu; simp at hu; rcases hu with rfl | rfl <;> rfl) (by have := HLL.out; unfold maxLen; omega) (by have := HLL.out; omega) (by have h2 := hb1.size; have h3 := HBW.out; simp; omega) ?_
                intro v' w3 hown hgrow hat
                obtain ⟨q1, q2, q3⟩ := bk_push (x := ((ya, keyL x.2.1 keys, yc), L.length)) HBW.out h5B (by have := h15; omega) (by omega) HV.out HRO.out HRR.out HKS.out HPT.out HBL.out hb1 hy1 hy2 hy3 hown hgrow hat
                obtain ⟨g', cap', rfl⟩ := ownsRow_succ hown
                have c7 := q1.cell
                have f7 := q1.frozen
                refine hK _ _ ?_
                clear hK K
                try simp only [Act.put, List.setIfInBounds_toArray, List.set_cons_zero, List.set_cons_succ]
                refine wpAny_ready (rs := [9]) (by kernel_rfl) (by simp) ?_
                refine AllReady.cons (o := ⟨none, _, _, _, _, _⟩) rfl (fun K hK => ?_) ?_
                · go_simp
                  refine hK _ _ ?_
                  clear hK K
                  try simp only [Act.put, List.setIfInBounds_toArray, List.set_cons_zero, List.set_cons_succ]
                  refine wpAny_done (by kernel_rfl) ?_ _
                  exact ⟨rfl, (KeepsOthers.of_heap HWD.out).trans q2, _, q3, by rw [List.length_append]; exact toK_push HKT.out HX1.out⟩
                exact AllReady.nil
              exact AllReady.nil
            exact AllReady.nil
          exact AllReady.nil
        exact AllReady.nil
      refine AllReady.cons (o := ⟨some 16, _, _, _, _, _⟩) rfl (fun K hK => ?_) ?_
      · go_simp
        refine (ck).mono ?_
        rintro e W1 ⟨ya, yc, rfl, hy1, hy2, hy3, hb1⟩
        have c5 := (Boxed.kc HV.out (KC.of_below (B := B) hb1)).cell
        have hne : ¬ b5 = W1.heap.size := by have h1 := HV.out.lt; have h2 := hb1.size; omega
        have c6 : ∀ o, (W1.alloc o).cell? ⟨b5, 0, none⟩ = some (.slice av L.length cv) := fun o => ((Boxed.kc HV.out (KC.of_below (B := B) hb1)).alloc o).cell
        refine hK _ _ ?_
        clear hK K
        try simp only [Act.put, List.setIfInBounds_toArray, List.set_cons_zero, List.set_cons_succ]
        refine wpAny_ready (rs := [0, 4]) (by kernel_rfl) (by simp) ?_
        refine AllReady.cons (o := ⟨some 13, _, _, _, _, _⟩) rfl (fun K hK => ?_) ?_
        · go_simp
          refine hK _ _ ?_
          clear hK K
          try simp only [Act.put, List.setIfInBounds_toArray, List.set_cons_zero, List.set_cons_succ]
          refine wpAny_ready (rs := [4]) (by kernel_rfl) (by simp) ?_
          refine AllReady.cons (o := ⟨some 17, _, _, _, _, _⟩) rfl (fun K hK => ?_) ?_
          · go_simp
            refine hK _ _ ?_
            clear hK K
            try simp only [Act.put, List.setIfInBounds_toArray, List.set_cons_zero, List.set_cons_succ]
            refine wpAny_take (i := 5) (oi := ⟨some 18, _, _, _, _, _⟩) (v := .int .i64 L.length) rfl (by kernel_rfl) (by kernel_rfl) (by kernel_rfl) (fun _ _ _ h => h) (Or.inl ⟨by rfl, fun w => by go_simp⟩) ?_
            try simp only [Act.put, List.setIfInBounds_toArray, List.set_cons_zero, List.set_cons_succ]
            refine wpAny_take (i := 6) (oi := ⟨some 19, _, _, _, _, _⟩) (v := .agg #[.slice ya (keyL x.2.1 keys).length yc, .int .i64 L.length]) rfl (by kernel_rfl) (by kernel_rfl) (by kernel_rfl) (fun _ _ _ h => h) (Or.inl ⟨by rfl, fun w => by go_simp⟩) ?_
            try simp only [Act.put, List.setIfInBounds_toArray, List.set_cons_zero, List.set_cons_succ]
            refine wpAny_ready (rs := [7]) (by kernel_rfl) (by simp) ?_
            refine AllReady.cons (o := ⟨some 20, _, _, _, _, _⟩) rfl (fun K hK => ?_) ?_
            · go_simp
              refine hK _ _ ?_
              clear hK K
              try simp only [Act.put, List.setIfInBounds_toArray, List.set_cons_zero, List.set_cons_succ]
              refine wpAny_ready (rs := [8]) (by kernel_rfl) (by simp) ?_
              refine AllReady.cons (o := ⟨some 21, _, _, _, _, _⟩) rfl (fun K hK => ?_) ?_
              · rw [if_pos (by kernel_rfl)]
                refine wp_append_own_at _ _ _ 76 rfl B 78 i0 _ 2 32 Try.underlying76 I.out Z0.out Z1.out Z2.out rfl (by decide) _ _ _ rfl ((owns_kc HRO.out (KC.of_below (B := B) hb1)).alloc _) ⟨W1.heap.size, 0, none⟩ 1 1 [.slice ya (keyL x.2.1 keys).length yc, .int .i64 L.length] rfl rfl (two_new W1 _ _ _) (by intro u hu; simp at hu; rcases hu with rfl | rfl <;> rfl) (by have := HLL.out; unfold maxLen; omega) (by have := HLL.out; omega) (by have h2 := hb1.size; have h3 := HBW.out; simp; omega) ?_
                intro v' w3 hown hgrow hat
                obtain ⟨q1, q2, q3⟩ := bk_push (x := ((ya, keyL x.2.1 keys, yc), L.length)) HBW.out h5B (by have := h15; omega) (by omega) HV.out HRO.out HRR.out HKS.out HPT.out HBL.out hb1 hy1 hy2 hy3 hown hgrow hat
                obtain ⟨g', cap', rfl⟩ := ownsRow_succ hown
                have c7 := q1.cell
                have f7 := q1.frozen
                refine hK _ _ ?_
                clear hK K
                try simp only [Act.put, List.setIfInBounds_toArray, List.set_cons_zero, List.set_cons_succ]
                refine wpAny_ready (rs := [9]) (by kernel_rfl) (by simp) ?_
                refine AllReady.cons (o := ⟨none, _, _, _, _, _⟩) rfl (fun K hK => ?_) ?_
                · go_simp
                  refine hK _ _ ?_
                  clear hK K
                  try simp only [Act.put, List.setIfInBounds_toArray, List.set_cons_zero, List.set_cons_succ]
                  refine wpAny_done (by kernel_rfl) ?_ _
                  exact ⟨rfl, (KeepsOthers.of_heap HWD.out).trans q2, _, q3, by rw [List.length_append]; exact toK_push HKT.out HX1.out⟩
                exact AllReady.nil
              exact AllReady.nil
            exact AllReady.nil
          exact AllReady.nil
        refine AllReady.cons (o := ⟨some 17, _, _, _, _, _⟩) rfl (fun K hK => ?_) ?_
        · go_simp
          refine hK _ _ ?_
          clear hK K
          try simp only [Act.put, List.setIfInBounds_toArray, List.set_cons_zero, List.set_cons_succ]
          refine wpAny_take (i := 5) (oi := ⟨some 18, _, _, _, _, _⟩) (v := .int .i64 L.length) rfl (by kernel_rfl) (by kernel_rfl) (by kernel_rfl) (fun _ _ _ h => h) (Or.inl ⟨by rfl, fun w => by go_simp⟩) ?_
          try simp only [Act.put, List.setIfInBounds_toArray, List.set_cons_zero, List.set_cons_succ]
          refine wpAny_take (i := 6) (oi := ⟨some 19, _, _, _, _, _⟩) (v := .agg #[.slice ya (keyL x.2.1 keys).length yc, .int .i64 L.length]) rfl (by kernel_rfl) (by kernel_rfl) (by kernel_rfl) (fun _ _ _ h => h) (Or.inl ⟨by rfl, fun w => by go_simp⟩) ?_
          try simp only [Act.put, List.setIfInBounds_toArray, List.set_cons_zero, List.set_cons_succ]
          refine wpAny_ready (rs := [0, 7]) (by kernel_rfl) (by simp) ?_
          refine AllReady.cons (o := ⟨some 13, _, _, _, _, _⟩) rfl (fun K hK => ?_) ?_
          · go_simp
            refine hK _ _ ?_
            clear hK K
            try simp only [Act.put, List.setIfInBounds_toArray, List.set_cons_zero, List.set_cons_succ]
            refine wpAny_ready (rs := [7]) (by kernel_rfl) (by simp) ?_
            refine AllReady.cons (o := ⟨some 20, _, _, _, _, _⟩) rfl (fun K hK => ?_) ?_
            · go_simp
              refine hK _ _ ?_
              clear hK K
              try simp only [Act.put, List.setIfInBounds_toArray, List.set_cons_zero, List.set_cons_succ]
              refine wpAny_ready (rs := [8]) (by kernel_rfl) (by simp) ?_
              refine AllReady.cons (o := ⟨some 21, _, _, _, _, _⟩) rfl (fun K hK => ?_) ?_
              · rw [if_pos (by kernel_rfl)]
                refine wp_append_own_at _ _ _ 76 rfl B 78 i0 _ 2 32 Try.underlying76 I.out Z0.out Z1.out Z2.out rfl (by decide) _ _ _ rfl ((owns_kc HRO.out (KC.of_below (B := B) hb1)).alloc _) ⟨W1.heap.size, 0, none⟩ 1 1 [.slice ya (keyL x.2.1 keys).length yc, .int .i64 L.length] rfl rfl (two_new W1 _ _ _) (by intro u hu; simp at hu; rcases hu with rfl | rfl <;> rfl) (by have := HLL.out; unfold maxLen; omega) (by have := HLL.out; omega) (by have h2 := hb1.size; have h3 := HBW.out; simp; omega) ?_
                intro v' w3 hown hgrow hat
                obtain ⟨q1, q2, q3⟩ := bk_push (x := ((ya, keyL x.2.1 keys, yc), L.length)) HBW.out h5B (by have := h15; omega) (by omega) HV.out HRO.out HRR.out HKS.out HPT.out HBL.out hb1 hy1 hy2 hy3 hown hgrow hat
                obtain ⟨g', cap', rfl⟩ := ownsRow_succ hown
                have c7 := q1.cell
                have f7 := q1.frozen
                refine hK _ _ ?_
                clear hK K
                try simp only [Act.put, List.setIfInBounds_toArray, List.set_cons_zero, List.set_cons_succ]
                refine wpAny_ready (rs := [9]) (by kernel_rfl) (by simp) ?_
                refine AllReady.cons (o := ⟨none, _, _, _, _, _⟩) rfl (fun K hK => ?_) ?_
                · go_simp
                  refine hK _ _ ?_
                  clear hK K
                  try simp only [Act.put, List.setIfInBounds_toArray, List.set_cons_zero, List.set_cons_succ]
                  refine wpAny_done (by kernel_rfl) ?_ _
                  exact ⟨rfl, (KeepsOthers.of_heap HWD.out).trans q2, _, q3, by rw [List.length_append]; exact toK_push HKT.out HX1.out⟩
                exact AllReady.nil
              exact AllReady.nil
            exact AllReady.nil
          refine AllReady.cons (o := ⟨some 20, _, _, _, _, _⟩) rfl (fun K hK => ?_) ?_
          · go_simp
            refine hK _ _ ?_
            clear hK K
            try simp only [Act.put, List.setIfInBounds_toArray, List.set_cons_zero, List.set_cons_succ]
            refine wpAny_ready (rs := [0]) (by kernel_rfl) (by simp) ?_
            refine AllReady.cons (o := ⟨some 13, _, _, _, _, _⟩) rfl (fun K hK => ?_) ?_
            · go_simp
              refine hK _ _ ?_
              clear hK K
              try simp only [Act.put, List.setIfInBounds_toArray, List.set_cons_zero, List.set_cons_succ]
              refine wpAny_ready (rs := [8]) (by kernel_rfl) (by simp) ?_
              refine AllReady.cons (o := ⟨some 21, _, _, _, _, _⟩) rfl (fun K hK => ?_) ?_
              · rw [if_pos (by kernel_rfl)]
                refine wp_append_own_at _ _ _ 76 rfl B 78 i0 _ 2 32 Try.underlying76 I.out Z0.out Z1.out Z2.out rfl (by decide) _ _ _ rfl ((owns_kc HRO.out (KC.of_below (B := B) hb1)).alloc _) ⟨W1.heap.size, 0, none⟩ 1 1 [.slice ya (keyL x.2.1 keys).length yc, .int .i64 L.length] rfl rfl (two_new W1 _ _ _) (by intro u hu; simp at hu; rcases hu with rfl | rfl <;> rfl) (by have := HLL.out; unfold maxLen; omega) (by have := HLL.out; omega) (by have h2 := hb1.size; have h3 := HBW.out; simp; omega) ?_
                intro v' w3 hown hgrow hat
                obtain ⟨q1, q2, q3⟩ := bk_push (x := ((ya, keyL x.2.1 keys, yc), L.length)) HBW.out h5B (by have := h15; omega) (by omega) HV.out HRO.out HRR.out HKS.out HPT.out HBL.out hb1 hy1 hy2 hy3 hown hgrow hat
                obtain ⟨g', cap', rfl⟩ := ownsRow_succ hown
                have c7 := q1.cell
                have f7 := q1.frozen
                refine hK _ _ ?_
                clear hK K
                try simp only [Act.put, List.setIfInBounds_toArray, List.set_cons_zero, List.set_cons_succ]
                refine wpAny_ready (rs := [9]) (by kernel_rfl) (by simp) ?_
                refine AllReady.cons (o := ⟨none, _, _, _, _, _⟩) rfl (fun K hK => ?_) ?_
                · go_simp
                  refine hK _ _ ?_
                  clear hK K
                  try simp only [Act.put, List.setIfInBounds_toArray, List.set_cons_zero, List.set_cons_succ]
                  refine wpAny_done (by kernel_rfl) ?_ _
                  exact ⟨rfl, (KeepsOthers.of_heap HWD.out).trans q2, _, q3, by rw [List.length_append]; exact toK_push HKT.out HX1.out⟩
                exact AllReady.nil
              exact AllReady.nil
            exact AllReady.nil
          exact AllReady.nil
        exact AllReady.nil
      refine AllReady.cons (o := ⟨some 17, _, _, _, _, _⟩) rfl (fun K hK => ?_) ?_
      · go_simp
        refine hK _ _ ?_
        clear hK K
        try simp only [Act.put, List.setIfInBounds_toArray, List.set_cons_zero, List.set_cons_succ]
        refine wpAny_take (i := 5) (oi := ⟨some 18, _, _, _, _, _⟩) (v := .int .i64 L.length) rfl (by kernel_rfl) (by kernel_rfl) (by kernel_rfl) (fun _ _ _ h => h) (Or.inl ⟨by rfl, fun w => by go_simp⟩) ?_
        try simp only [Act.put, List.setIfInBounds_toArray, List.set_cons_zero, List.set_cons_succ]
        refine wpAny_ready (rs := [0, 3]) (by kernel_rfl) (by simp) ?_
        refine AllReady.cons (o := ⟨some 13, _, _, _, _, _⟩) rfl (fun K hK => ?_) ?_
        · go_simp
          refine hK _ _ ?_
          clear hK K
          try simp only [Act.put, List.setIfInBounds_toArray, List.set_cons_zero, List.set_cons_succ]
          refine wpAny_ready (rs := [3]) (by kernel_rfl) (by simp) ?_
          refine AllReady.cons (o := ⟨some 16, _, _, _, _, _⟩) rfl (fun K hK => ?_) ?_
          · go_simp
            refine (ck).mono ?_
            rintro e W1 ⟨ya, yc, rfl, hy1, hy2, hy3, hb1⟩
            have c5 := (Boxed.kc HV.out (KC.of_below (B := B) hb1)).cell
            have hne : ¬ b5 = W1.heap.size := by have h1 := HV.out.lt; have h2 := hb1.size; omega
            have c6 : ∀ o, (W1.alloc o).cell? ⟨b5, 0, none⟩ = some (.slice av L.length cv) := fun o => ((Boxed.kc HV.out (KC.of_below (B := B) hb1)).alloc o).cell
            refine hK _ _ ?_
            clear hK K
            try simp only [Act.put, List.setIfInBounds_toArray, List.set_cons_zero, List.set_cons_succ]
            refine wpAny_take (i := 6) (oi := ⟨some 19, _, _, _, _, _⟩) (v := .agg #[.slice ya (keyL x.2.1 keys).length yc, .int .i64 L.length]) rfl (by kernel_rfl) (by kernel_rfl) (by kernel_rfl) (fun _ _ _ h => h) (Or.inl ⟨by rfl, fun w => by go_simp⟩) ?_
            try simp only [Act.put, List.setIfInBounds_toArray, List.set_cons_zero, List.set_cons_succ]
            refine wpAny_ready (rs := [7]) (by kernel_rfl) (by simp) ?_
            refine AllReady.cons (o := ⟨some 20, _, _, _, _, _⟩) rfl (fun K hK => ?_) ?_
            · go_simp
              refine hK _ _ ?_
              clear hK K
              try simp only [Act.put, List.setIfInBounds_toArray, List.set_cons_zero, List.set_cons_succ]
              refine wpAny_ready (rs := [8]) (by kernel_rfl) (by simp) ?_
              refine AllReady.cons (o := ⟨some 21, _, _, _, _, _⟩) rfl (fun K hK => ?_) ?_
              · rw [if_pos (by kernel_rfl)]
                refine wp_append_own_at _ _ _ 76 rfl B 78 i0 _ 2 32 Try.underlying76 I.out Z0.out Z1.out Z2.out rfl (by decide) _ _ _ rfl ((owns_kc HRO.out (KC.of_below (B := B) hb1)).alloc _) ⟨W1.heap.size, 0, none⟩ 1 1 [.slice ya (keyL x.2.1 keys).length yc, .int .i64 L.length] rfl rfl (two_new W1 _ _ _) (by intro u hu; simp at hu; rcases hu with rfl | rfl <;> rfl) (by have := HLL.out; unfold maxLen; omega) (by have := HLL.out; omega) (by have h2 := hb1.size; have h3 := HBW.out; simp; omega) ?_
                intro v' w3 hown hgrow hat
                obtain ⟨q1, q2, q3⟩ := bk_push (x := ((ya, keyL x.2.1 keys, yc), L.length)) HBW.out h5B (by have := h15; omega) (by omega) HV.out HRO.out HRR.out HKS.out HPT.out HBL.out hb1 hy1 hy2 hy3 hown hgrow hat
                obtain ⟨g', cap', rfl⟩ := ownsRow_succ hown
                have c7 := q1.cell
                have f7 := q1.frozen
                refine hK _ _ ?_
                clear hK K
                try simp only [Act.put, List.setIfInBounds_toArray, List.set_cons_zero, List.set_cons_succ]
                refine wpAny_ready (rs := [9]) (by kernel_rfl) (by simp) ?_
                refine AllReady.cons (o := ⟨none, _, _, _, _, _⟩) rfl (fun K hK => ?_) ?_
                · go_simp
                  refine hK _ _ ?_
                  clear hK K
                  try simp only [Act.put, List.setIfInBounds_toArray, List.set_cons_zero, List.set_cons_succ]
                  refine wpAny_done (by kernel_rfl) ?_ _
                  exact ⟨rfl, (KeepsOthers.of_heap HWD.out).trans q2, _, q3, by rw [List.length_append]; exact toK_push HKT.out HX1.out⟩
                exact AllReady.nil
              exact AllReady.nil
            exact AllReady.nil
          exact AllReady.nil
        refine AllReady.cons (o := ⟨some 16, _, _, _, _, _⟩) rfl (fun K hK => ?_) ?_
        · go_simp
          refine (ck).mono ?_
          rintro e W1 ⟨ya, yc, rfl, hy1, hy2, hy3, hb1⟩
          have c5 := (Boxed.kc HV.out (KC.of_below (B := B) hb1)).cell
          have hne : ¬ b5 = W1.heap.size := by have h1 := HV.out.lt; have h2 := hb1.size; omega
          have c6 : ∀ o, (W1.alloc o).cell? ⟨b5, 0, none⟩ = some (.slice av L.length cv) := fun o => ((Boxed.kc HV.out (KC.of_below (B := B) hb1)).alloc o).cell
          refine hK _ _ ?_
          clear hK K
          try simp only [Act.put, List.setIfInBounds_toArray, List.set_cons_zero, List.set_cons_succ]
          refine wpAny_take (i := 6) (oi := ⟨some 19, _, _, _, _, _⟩) (v := .agg #[.slice ya (keyL x.2.1 keys).length yc, .int .i64 L.length]) rfl (by kernel_rfl) (by kernel_rfl) (by kernel_rfl) (fun _ _ _ h => h) (Or.inl ⟨by rfl, fun w => by go_simp⟩) ?_
          try simp only [Act.put, List.setIfInBounds_toArray, List.set_cons_zero, List.set_cons_succ]
          refine wpAny_ready (rs := [0, 7]) (by kernel_rfl) (by simp) ?_
          refine AllReady.cons (o := ⟨some 13, _, _, _, _, _⟩) rfl (fun K hK => ?_) ?_
          · go_simp
            refine hK _ _ ?_
            clear hK K
            try simp only [Act.put, List.setIfInBounds_toArray, List.set_cons_zero, List.set_cons_succ]
            refine wpAny_ready (rs := [7]) (by kernel_rfl) (by simp) ?_
            refine AllReady.cons (o := ⟨some 20, _, _, _, _, _⟩) rfl (fun K hK => ?_) ?_
            · go_simp
              refine hK _ _ ?_
              clear hK K
              try simp only [Act.put, List.setIfInBounds_toArray, List.set_cons_zero, List.set_cons_succ]
              refine wpAny_ready (rs := [8]) (by kernel_rfl) (by simp) ?_
              refine AllReady.cons (o := ⟨some 21, _, _, _, _, _⟩) rfl (fun K hK => ?_) ?_
              · rw [if_pos (by kernel_rfl)]
                refine wp_append_own_at _ _ _ 76 rfl B 78 i0 _ 2 32 Try.underlying76 I.out Z0.out Z1.out Z2.out rfl (by decide) _ _ _ rfl ((owns_kc HRO.out (KC.of_below (B := B) hb1)).alloc _) ⟨W1.heap.size, 0, none⟩ 1 1 [.slice ya (keyL x.2.1 keys).length yc, .int .i64 L.length] rfl rfl (two_new W1 _ _ _) (by intro u hu; simp at hu; rcases hu with rfl | rfl <;> rfl) (by have := HLL.out; unfold maxLen; omega) (by have := HLL.out; omega) (by have h2 := hb1.size; have h3 := HBW.out; simp; omega) ?_
                intro v' w3 hown hgrow hat
                obtain ⟨q1, q2, q3⟩ := bk_push (x := ((ya, keyL x.2.1 keys, yc), L.length)) HBW.out h5B (by have := h15; omega) (by omega) HV.out HRO.out HRR.out HKS.out HPT.out HBL.out hb1 hy1 hy2 hy3 hown hgrow hat
                obtain ⟨g', cap', rfl⟩ := ownsRow_succ hown
                have c7 := q1.cell
                have f7 := q1.frozen
                refine hK _ _ ?_
                clear hK K
                try simp only [Act.put, List.setIfInBounds_toArray, List.set_cons_zero, List.set_cons_succ]
                refine wpAny_ready (rs := [9]) (by kernel_rfl) (by simp) ?_
                refine AllReady.cons (o := ⟨none, _, _, _, _, _⟩) rfl (fun K hK => ?_) ?_
                · go_simp
                  refine hK _ _ ?_
                  clear hK K
                  try simp only [Act.put, List.setIfInBounds_toArray, List.set_cons_zero, List.set_cons_succ]
                  refine wpAny_done (by kernel_rfl) ?_ _
                  exact ⟨rfl, (KeepsOthers.of_heap HWD.out).trans q2, _, q3, by rw [List.length_append]; exact toK_push HKT.out HX1.out⟩
                exact AllReady.nil
              exact AllReady.nil
            exact AllReady.nil
          refine AllReady.cons (o := ⟨some 20, _, _, _, _, _⟩) rfl (fun K hK => ?_) ?_
          · go_simp
            refine hK _ _ ?_
            clear hK K
            try simp only [Act.put, List.setIfInBounds_toArray, List.set_cons_zero, List.set_cons_succ]
            refine wpAny_ready (rs := [0]) (by kernel_rfl) (by simp) ?_
            refine AllReady.cons (o := ⟨some 13, _, _, _, _, _⟩) rfl (fun K hK => ?_) ?_
            · go_simp
              refine hK _ _ ?_
              clear hK K
              try simp only [Act.put, List.setIfInBounds_toArray, List.set_cons_zero, List.set_cons_succ]
              refine wpAny_ready (rs := [8]) (by kernel_rfl) (by simp) ?_
              refine AllReady.cons (o := ⟨some 21, _, _, _, _, _⟩) rfl (fun K hK => ?_) ?_
              · rw [if_pos (by kernel_rfl)]
                refine wp_append_own_at _ _ _ 76 rfl B 78 i0 _ 2 32 Try.underlying76 I.out Z0.out Z1.out Z2.out rfl (by decide) _ _ _ rfl ((owns_kc HRO.out (KC.of_below (B := B) hb1)).alloc _) ⟨W1.heap.size, 0, none⟩ 1 1 [.slice ya (keyL x.2.1 keys).length yc, .int .i64 L.length] rfl rfl (two_new W1 _ _ _) (by intro u hu; simp at hu; rcases hu with rfl | rfl <;> rfl) (by have := HLL.out; unfold maxLen; omega) (by have := HLL.out; omega) (by have h2 := hb1.size; have h3 := HBW.out; simp; omega) ?_
                intro v' w3 hown hgrow hat
                obtain ⟨q1, q2, q3⟩ := bk_push (x := ((ya, keyL x.2.1 keys, yc), L.length)) HBW.out h5B (by have := h15; omega) (by omega) HV.out HRO.out HRR.out HKS.out HPT.out HBL.out hb1 hy1 hy2 hy3 hown hgrow hat
                obtain ⟨g', cap', rfl⟩ := ownsRow_succ hown
                have c7 := q1.cell
                have f7 := q1.frozen
                refine hK _ _ ?_
                clear hK K
                try simp only [Act.put, List.setIfInBounds_toArray, List.set_cons_zero, List.set_cons_succ]
                refine wpAny_ready (rs := [9]) (by kernel_rfl) (by simp) ?_
                refine AllReady.cons (o := ⟨none, _, _, _, _, _⟩) rfl (fun K hK => ?_) ?_
                · go_simp
                  refine hK _ _ ?_
                  clear hK K
                  try simp only [Act.put, List.setIfInBounds_toArray, List.set_cons_zero, List.set_cons_succ]
                  refine wpAny_done (by kernel_rfl) ?_ _
                  exact ⟨rfl, (KeepsOthers.of_heap HWD.out).trans q2, _, q3, by rw [List.length_append]; exact toK_push HKT.out HX1.out⟩
                exact AllReady.nil
              exact AllReady.nil
            exact AllReady.nil
          exact AllReady.nil
        exact AllReady.nil
      exact AllReady.nil
    refine AllReady.cons (o := ⟨some 17, _, _, _, _, _⟩) rfl (fun K hK => ?_) ?_
    · go_simp
      refine hK _ _ ?_
      clear hK K
      try simp only [Act.put, List.setIfInBounds_toArray, List.set_cons_zero, List.set_cons_succ]
      refine wpAny_take (i := 5) (oi := ⟨some 18, _, _, _, _, _⟩) (v := .int .i64 L.length) rfl (by kernel_rfl) (by kernel_rfl) (by kernel_rfl) (fun _ _ _ h => h) (Or.inl ⟨by rfl, fun w => by go_simp⟩) ?_
      try simp only [Act.put, List.setIfInBounds_toArray, List.set_cons_zero, List.set_cons_succ]
      refine wpAny_ready (rs := [0, 2]) (by kernel_rfl) (by simp) ?_
      refine AllReady.cons (o := ⟨some 13, _, _, _, _, _⟩) rfl (fun K hK => ?_) ?_
      · go_simp
        refine hK _ _ ?_
        clear hK K
        try simp only [Act.put, List.setIfInBounds_toArray, List.set_cons_zero, List.set_cons_succ]
        refine wpAny_ready (rs := [2]) (by kernel_rfl) (by simp) ?_
        refine AllReady.cons (o := ⟨some 15, _, _, _, _, _⟩) rfl (fun K hK => ?_) ?_
        · go_simp
          refine hK _ _ ?_
          clear hK K
          try simp only [Act.put, List.setIfInBounds_toArray, List.set_cons_zero, List.set_cons_succ]
          refine wpAny_ready (rs := [3]) (by kernel_rfl) (by simp) ?_
          refine AllReady.cons (o := ⟨some 16, _, _, _, _, _⟩) rfl (fun K hK => ?_) ?_
          · go_simp
            refine (ck).mono ?_
            rintro e W1 ⟨ya, yc, rfl, hy1, hy2, hy3, hb1⟩
            have c5 := (Boxed.kc HV.out (KC.of_below (B := B) hb1)).cell
            have hne : ¬ b5 = W1.heap.size := by have h1 := HV.out.lt; have h2 := hb1.size; omega
            have c6 : ∀ o, (W1.alloc o).cell? ⟨b5, 0, none⟩ = some (.slice av L.length cv) := fun o => ((Boxed.kc HV.out (KC.of_below (B := B) hb1)).alloc o).cell
            refine hK _ _ ?_
            clear hK K
            try simp only [Act.put, List.setIfInBounds_toArray, List.set_cons_zero, List.set_cons_succ]
            refine wpAny_take (i := 6) (oi := ⟨some 19, _, _, _, _, _⟩) (v := .agg #[.slice ya (keyL x.2.1 keys).length yc, .int .i64 L.length]) rfl (by kernel_rfl) (by kernel_rfl) (by kernel_rfl) (fun _ _ _ h => h) (Or.inl ⟨by rfl, fun w => by go_simp⟩) ?_
            try simp only [Act.put, List.setIfInBounds_toArray, List.set_cons_zero, List.set_cons_succ]
            refine wpAny_ready (rs := [7]) (by kernel_rfl) (by simp) ?_
            refine AllReady.cons (o := ⟨some 20, _, _, _, _, _⟩) rfl (fun K hK => ?_) ?_
            · go_simp
              refine hK _ _ ?_
              clear hK K
              try simp only [Act.put, List.setIfInBounds_toArray, List.set_cons_zero, List.set_cons_succ]
              refine wpAny_ready (rs := [8]) (by kernel_rfl) (by simp) ?_
              refine AllReady.cons (o := ⟨some 21, _, _, _, _, _⟩) rfl (fun K hK => ?_) ?_
              · rw [if_pos (by kernel_rfl)]
                refine wp_append_own_at _ _ _ 76 rfl B 78 i0 _ 2 32 Try.underlying76 I.out Z0.out Z1.out Z2.out rfl (by decide) _ _ _ rfl ((owns_kc HRO.out (KC.of_below (B := B) hb1)).alloc _) ⟨W1.heap.size, 0, none⟩ 1 1 [.slice ya (keyL x.2.1 keys).length yc, .int .i64 L.length] rfl rfl (two_new W1 _ _ _) (by intro u hu; simp at hu; rcases hu with rfl | rfl <;> rfl) (by have := HLL.out; unfold maxLen; omega) (by have := HLL.out; omega) (by have h2 := hb1.size; have h3 := HBW.out; simp; omega) ?_
                intro v' w3 hown hgrow hat
                obtain ⟨q1, q2, q3⟩ := bk_push (x := ((ya, keyL x.2.1 keys, yc), L.length)) HBW.out h5B (by have := h15; omega) (by omega) HV.out HRO.out HRR.out HKS.out HPT.out HBL.out hb1 hy1 hy2 hy3 hown hgrow hat
                obtain ⟨g', cap', rfl⟩ := ownsRow_succ hown
                have c7 := q1.cell
                have f7 := q1.frozen
                refine hK _ _ ?_
                clear hK K
                try simp only [Act.put, List.setIfInBounds_toArray, List.set_cons_zero, List.set_cons_succ]
                refine wpAny_ready (rs := [9]) (by kernel_rfl) (by simp) ?_
                refine AllReady.cons (o := ⟨none, _, _, _, _, _⟩) rfl (fun K hK => ?_) ?_
                · go_simp
                  refine hK _ _ ?_
                  clear hK K
                  try simp only [Act.put, List.setIfInBounds_toArray, List.set_cons_zero, List.set_cons_succ]
                  refine wpAny_done (by kernel_rfl) ?_ _
                  exact ⟨rfl, (KeepsOthers.of_heap HWD.out).trans q2, _, q3, by rw [List.length_append]; exact toK_push HKT.out HX1.out⟩
                exact AllReady.nil
              exact AllReady.nil
            exact AllReady.nil
          exact AllReady.nil
        exact AllReady.nil
      refine AllReady.cons (o := ⟨some 15, _, _, _, _, _⟩) rfl (fun K hK => ?_) ?_
      · go_simp
        refine hK _ _ ?_
        clear hK K
        try simp only [Act.put, List.setIfInBounds_toArray, List.set_cons_zero, List.set_cons_succ]
        refine wpAny_ready (rs := [0, 3]) (by kernel_rfl) (by simp) ?_
        refine AllReady.cons (o := ⟨some 13, _, _, _, _, _⟩) rfl (fun K hK => ?_) ?_
        · go_simp
          refine hK _ _ ?_
          clear hK K
          try simp only [Act.put, List.setIfInBounds_toArray, List.set_cons_zero, List.set_cons_succ]
          refine wpAny_ready (rs := [3]) (by kernel_rfl) (by simp) ?_
          refine AllReady.cons (o := ⟨some 16, _, _, _, _, _⟩) rfl (fun K hK => ?_) ?_
          · go_simp
            refine (ck).mono ?_
            rintro e W1 ⟨ya, yc, rfl, hy1, hy2, hy3, hb1⟩
            have c5 := (Boxed.kc HV.out (KC.of_below (B := B) hb1)).cell
            have hne : ¬ b5 = W1.heap.size := by have h1 := HV.out.lt; have h2 := hb1.size; omega
            have c6 : ∀ o, (W1.alloc o).cell? ⟨b5, 0, none⟩ = some (.slice av L.length cv) := fun o => ((Boxed.kc HV.out (KC.of_below (B := B) hb1)).alloc o).cell
            refine hK _ _ ?_
            clear hK K
            try simp only [Act.put, List.setIfInBounds_toArray, List.set_cons_zero, List.set_cons_succ]
            refine wpAny_take (i := 6) (oi := ⟨some 19, _, _, _, _, _⟩) (v := .agg #[.slice ya (keyL x.2.1 keys).length yc, .int .i64 L.length]) rfl (by kernel_rfl) (by kernel_rfl) (by kernel_rfl) (fun _ _ _ h => h) (Or.inl ⟨by rfl, fun w => by go_simp⟩) ?_
            try simp only [Act.put, List.setIfInBounds_toArray, List.set_cons_zero, List.set_cons_succ]
            refine wpAny_ready (rs := [7]) (by kernel_rfl) (by simp) ?_
            refine AllReady.cons (o := ⟨some 20, _, _, _, _, _⟩) rfl (fun K hK => ?_) ?_
            · go_simp
              refine hK _ _ ?_
              clear hK K
              try simp only [Act.put, List.setIfInBounds_toArray, List.set_cons_zero, List.set_cons_succ]
              refine wpAny_ready (rs := [8]) (by kernel_rfl) (by simp) ?_
              refine AllReady.cons (o := ⟨some 21, _, _, _, _, _⟩) rfl (fun K hK => ?_) ?_
              · rw [if_pos (by kernel_rfl)]
                refine wp_append_own_at _ _ _ 76 rfl B 78 i0 _ 2 32 Try.underlying76 I.out Z0.out Z1.out Z2.out rfl (by decide) _ _ _ rfl ((owns_kc HRO.out (KC.of_below (B := B) hb1)).alloc _) ⟨W1.heap.size, 0, none⟩ 1 1 [.slice ya (keyL x.2.1 keys).length yc, .int .i64 L.length] rfl rfl (two_new W1 _ _ _) (by intro u hu; simp at hu; rcases hu with rfl | rfl <;> rfl) (by have := HLL.out; unfold maxLen; omega) (by have := HLL.out; omega) (by have h2 := hb1.size; have h3 := HBW.out; simp; omega) ?_
                intro v' w3 hown hgrow hat
                obtain ⟨q1, q2, q3⟩ := bk_push (x := ((ya, keyL x.2.1 keys, yc), L.length)) HBW.out h5B (by have := h15; omega) (by omega) HV.out HRO.out HRR.out HKS.out HPT.out HBL.out hb1 hy1 hy2 hy3 hown hgrow hat
                obtain ⟨g', cap', rfl⟩ := ownsRow_succ hown
                have c7 := q1.cell
                have f7 := q1.frozen
                refine hK _ _ ?_
                clear hK K
                try simp only [Act.put, List.setIfInBounds_toArray, List.set_cons_zero, List.set_cons_succ]
                refine wpAny_ready (rs := [9]) (by kernel_rfl) (by simp) ?_
                refine AllReady.cons (o := ⟨none, _, _, _, _, _⟩) rfl (fun K hK => ?_) ?_
                · go_simp
                  refine hK _ _ ?_
                  clear hK K
                  try simp only [Act.put, List.setIfInBounds_toArray, List.set_cons_zero, List.set_cons_succ]
                  refine wpAny_done (by kernel_rfl) ?_ _
                  exact ⟨rfl, (KeepsOthers.of_heap HWD.out).trans q2, _, q3, by rw [List.length_append]; exact toK_push HKT.out HX1.out⟩
                exact AllReady.nil
              exact AllReady.nil
            exact AllReady.nil
          exact AllReady.nil
        refine AllReady.cons (o := ⟨some 16, _, _, _, _, _⟩) rfl (fun K hK => ?_) ?_
        · go_simp
          refine (ck).mono ?_
          rintro e W1 ⟨ya, yc, rfl, hy1, hy2, hy3, hb1⟩
          have c5 := (Boxed.kc HV.out (KC.of_below (B := B) hb1)).cell
          have hne : ¬ b5 = W1.heap.size := by have h1 := HV.out.lt; have h2 := hb1.size; omega
          have c6 : ∀ o, (W1.alloc o).cell? ⟨b5, 0, none⟩ = some (.slice av L.length cv) := fun o => ((Boxed.kc HV.out (KC.of_below (B := B) hb1)).alloc o).cell
          refine hK _ _ ?_
          clear hK K
          try simp only [Act.put, List.setIfInBounds_toArray, List.set_cons_zero, List.set_cons_succ]
          refine wpAny_take (i := 6) (oi := ⟨some 19, _, _, _, _, _⟩) (v := .agg #[.slice ya (keyL x.2.1 keys).length yc, .int .i64 L.length]) rfl (by kernel_rfl) (by kernel_rfl) (by kernel_rfl) (fun _ _ _ h => h) (Or.inl ⟨by rfl, fun w => by go_simp⟩) ?_
          try simp only [Act.put, List.setIfInBounds_toArray, List.set_cons_zero, List.set_cons_succ]
          refine wpAny_ready (rs := [0, 7]) (by kernel_rfl) (by simp) ?_
          refine AllReady.cons (o := ⟨some 13, _, _, _, _, _⟩) rfl (fun K hK => ?_) ?_
          · go_simp
            refine hK _ _ ?_
            clear hK K
            try simp only [Act.put, List.setIfInBounds_toArray, List.set_cons_zero, List.set_cons_succ]
            refine wpAny_ready (rs := [7]) (by kernel_rfl) (by simp) ?_
            refine AllReady.cons (o := ⟨some 20, _, _, _, _, _⟩) rfl (fun K hK => ?_) ?_
            · go_simp
              refine hK _ _ ?_
              clear hK K
              try simp only [Act.put, List.setIfInBounds_toArray, List.set_cons_zero, List.set_cons_succ]
              refine wpAny_ready (rs := [8]) (by kernel_rfl) (by simp) ?_
              refine AllReady.cons (o := ⟨some 21, _, _, _, _, _⟩) rfl (fun K hK => ?_) ?_
              · rw [if_pos (by kernel_rfl)]
                refine wp_append_own_at _ _ _ 76 rfl B 78 i0 _ 2 32 Try.underlying76 I.out Z0.out Z1.out Z2.out rfl (by decide) _ _ _ rfl ((owns_kc HRO.out (KC.of_below (B := B) hb1)).alloc _) ⟨W1.heap.size, 0, none⟩ 1 1 [.slice ya (keyL x.2.1 keys).length yc, .int .i64 L.length] rfl rfl (two_new W1 _ _ _) (by intro u hu; simp at hu; rcases hu with rfl | rfl <;> rfl) (by have := HLL.out; unfold maxLen; omega) (by have := HLL.out; omega) (by have h2 := hb1.size; have h3 := HBW.out; simp; omega) ?_
                intro v' w3 hown hgrow hat
                obtain ⟨q1, q2, q3⟩ := bk_push (x := ((ya, keyL x.2.1 keys, yc), L.length)) HBW.out h5B (by have := h15; omega) (by omega) HV.out HRO.out HRR.out HKS.out HPT.out HBL.out hb1 hy1 hy2 hy3 hown hgrow hat
                obtain ⟨g', cap', rfl⟩ := ownsRow_succ hown
                have c7 := q1.cell
                have f7 := q1.frozen
                refine hK _ _ ?_
                clear hK K
                try simp only [Act.put, List.setIfInBounds_toArray, List.set_cons_zero, List.set_cons_succ]
                refine wpAny_ready (rs := [9]) (by kernel_rfl) (by simp) ?_
                refine AllReady.cons (o := ⟨none, _, _, _, _, _⟩) rfl (fun K hK => ?_) ?_
                · go_simp
                  refine hK _ _ ?_
                  clear hK K
                  try simp only [Act.put, List.setIfInBounds_toArray, List.set_cons_zero, List.set_cons_succ]
                  refine wpAny_done (by kernel_rfl) ?_ _
                  exact ⟨rfl, (KeepsOthers.of_heap HWD.out).trans q2, _, q3, by rw [List.length_append]; exact toK_push HKT.out HX1.out⟩
                exact AllReady.nil
              exact AllReady.nil
            exact AllReady.nil
          refine AllReady.cons (o := ⟨some 20, _, _, _, _, _⟩) rfl (fun K hK => ?_) ?_
          · go_simp
            refine hK _ _ ?_
            clear hK K
            try simp only [Act.put, List.setIfInBounds_toArray, List.set_cons_zero, List.set_cons_succ]
            refine wpAny_ready (rs := [0]) (by kernel_rfl) (by simp) ?_
            refine AllReady.cons (o := ⟨some 13, _, _, _, _, _⟩) rfl (fun K hK => ?_) ?_
            · go_simp
              refine hK _ _ ?_
              clear hK K
              try simp only [Act.put, List.setIfInBounds_toArray, List.set_cons_zero, List.set_cons_succ]
              refine wpAny_ready (rs := [8]) (by kernel_rfl) (by simp) ?_
              refine AllReady.cons (o := ⟨some 21, _, _, _, _, _⟩) rfl (fun K hK => ?_) ?_
              · rw [if_pos (by kernel_rfl)]
                refine wp_append_own_at _ _ _ 76 rfl B 78 i0 _ 2 32 Try.underlying76 I.out Z0.out Z1.out Z2.out rfl (by decide) _ _ _ rfl ((owns_kc HRO.out (KC.of_below (B := B) hb1)).alloc _) ⟨W1.heap.size, 0, none⟩ 1 1 [.slice ya (keyL x.2.1 keys).length yc, .int .i64 L.length] rfl rfl (two_new W1 _ _ _) (by intro u hu; simp at hu; rcases hu with rfl | rfl <;> rfl) (by have := HLL.out; unfold maxLen; omega) (by have := HLL.out; omega) (by have h2 := hb1.size; have h3 := HBW.out; simp; omega) ?_
                intro v' w3 hown hgrow hat
                obtain ⟨q1, q2, q3⟩ := bk_push (x := ((ya, keyL x.2.1 keys, yc), L.length)) HBW.out h5B (by have := h15; omega) (by omega) HV.out HRO.out HRR.out HKS.out HPT.out HBL.out hb1 hy1 hy2 hy3 hown hgrow hat
                obtain ⟨g', cap', rfl⟩ := ownsRow_succ hown
                have c7 := q1.cell
                have f7 := q1.frozen
                refine hK _ _ ?_
                clear hK K
                try simp only [Act.put, List.setIfInBounds_toArray, List.set_cons_zero, List.set_cons_succ]
                refine wpAny_ready (rs := [9]) (by kernel_rfl) (by simp) ?_
                refine AllReady.cons (o := ⟨none, _, _, _, _, _⟩) rfl (fun K hK => ?_) ?_
                · go_simp
                  refine hK _ _ ?_
                  clear hK K
                  try simp only [Act.put, List.setIfInBounds_toArray, List.set_cons_zero, List.set_cons_succ]
                  refine wpAny_done (by kernel_rfl) ?_ _
                  exact ⟨rfl, (KeepsOthers.of_heap HWD.out).trans q2, _, q3, by rw [List.length_append]; exact toK_push HKT.out HX1.out⟩
                exact AllReady.nil
              exact AllReady.nil
            exact AllReady.nil
          exact AllReady.nil
        exact AllReady.nil
      exact AllReady.nil
    exact AllReady.nil
  case hdone =>
    rintro D xs X hD hxs ⟨L, hL, hKt⟩ hdef
    obtain ⟨v, hv, hrow, hr⟩ := hL.v
    rw [hxs] at hKt
    have hLl : L.length = rs.length := by have h1 := congrArg List.length hKt; rw [toK_len, keysTo_len] at h1; exact h1
    have hbl := hL.below
    have hBX := hL.size HB.out
    obtain ⟨av, cv, rfl⟩ : ∃ av cv, v = .slice av L.length cv := by
      rcases hrow.2 with ⟨e1, e2⟩ | ⟨g, cap, cur, e1, _⟩
      · exact ⟨none, 0, by rw [e2]; exact e1⟩
      · exact ⟨_, _, e1⟩
    have cs := hsort B b5 X _ L hrow hr (by omega) (fun y hy => by
      obtain ⟨i, hi, e⟩ := keysTo_mem (by rw [← hKt]; exact List.mem_map_of_mem (f := fun e : KE => (e.1.2.1, e.2)) hy)
      have h2 := keyL_len (rowAt rs i) keys
      have h3 : y.1.2.1 = keyL (rowAt rs i) keys := (Prod.mk.inj e).1
      rw [h3]; omega)
    have c5 := hv.cell
    have HV := Lib.hid hv
    have HRO := Lib.hid hrow
    have HRR := Lib.hid hr
    have HBL := Lib.hid hbl
    have HKT := Lib.hid hKt
    have HDF := Lib.hid hdef
    have HLL := Lib.hid hLl
    have HD := Lib.hid hD
    have HBX := Lib.hid hBX
    clear hv hrow hr hbl hKt hdef hLl hD hL hxs hBX
    go_wp2_with fail
    refine cs.mono ?_
    rintro e X1 ⟨rfl, L', hp, hasc, hown, hk⟩
    have c6 : X1.cell? ⟨b5, 0, none⟩ = some (.slice av L.length cv) := (World.cell?_of_block (a := ⟨b5, 0, none⟩) (hk.block b5 HV.out.lt (fun e => HV.out.not_row (by decide) HRO.out e.symm))).trans c5
    have d6 : X1.heap[D]? = some (.deferred (some [])) := by
      have hlt : D < X.heap.size := (Array.getElem?_eq_some_iff.1 HDF.out).1
      refine (hk.block D hlt (fun e => ?_)).trans HDF.out
      rcases HRO.out.2 with ⟨e1, _⟩ | ⟨g, cap, cur, e1, _, hg, _⟩
      · rw [e1] at e; simp [Value.ownBlock] at e
      · rw [e1] at e; simp [Value.ownBlock] at e; subst e; rw [HDF.out] at hg; cases hg
    have HO := Lib.hid hown
    have HKp := Lib.hid hk
    have HP := Lib.hid hp
    have HA := Lib.hid hasc
    clear cs hown hk hp hasc
    go_wp2_with fail
    refine ⟨by simp, .inl ⟨_, _, rfl, run_takeDeferred d6, ?_⟩⟩
    have kq : KC B X1 (X1.putObj D (.deferred none)) := KC.putObj _ d6 rfl (by have := HD.out; have := N3.out; omega)
    have bX1 : Below B w X1 := ⟨HKp.out.os.trans HBL.out.os, HKp.out.tape.trans HBL.out.tape, HKp.out.output.trans HBL.out.output, Nat.le_trans HBL.out.size HKp.out.size, fun k hk => (HKp.out.block k (Nat.lt_of_lt_of_le hk HBX.out) (fun e => by have := (HRO.out.lt _ e).1; omega)).trans (HBL.out.block k hk)⟩
    have hBX1 : B ≤ X1.heap.size := Nat.le_trans HBX.out HKp.out.size
    have hle := HP.out.length_eq
    have hO2 := owns_kc HO.out kq
    rw [← hle] at hO2
    have hP2 : (toK L').Perm (keysTo rs keys rs.length) := by rw [← HKT.out]; exact HP.out.map _
    refine ⟨_, results_tmp rfl _ _ _, B, b5, av, cv, L', Nat.le_of_eq HB.out, by rw [hle]; rfl, hO2, fun y hy => ?_, hP2, HA.out, by rw [HB.out]; exact kq.below bX1 hBX1⟩
    have h1 := HRR.out y (HP.out.mem_iff.1 hy)
    rw [hle]
    exact ⟨⟨(h1.1.1.keeps HKp.out (fun q hq e => (h1.2 q hq).2.1 e)).kc kq, h1.1.2⟩, fun q hq => ⟨Nat.lt_of_lt_of_le (h1.2 q hq).1 (Nat.le_trans HKp.out.size kq.size), (h1.2 q hq).2⟩⟩
end Go.Proofs.Ytcecndjkfdaaaaa
