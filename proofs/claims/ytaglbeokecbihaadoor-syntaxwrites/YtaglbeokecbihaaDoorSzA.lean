/- Rows of texts: made, appended to, compared; the variables of terms. Written by mksza.py. -/
import Derived.Test.YtaglbeokecbihaaDoorSyG
import Derived.Maps.AppendAt
namespace Go.Proofs.YtaglbeokecbihaaDoor
open Go.RowKit
set_option linter.unusedVariables false
set_option linter.unusedSimpArgs false

theorem i9 : (Tryd.prog.info? 9).map (fun i => (i.zero, i.size, i.bytes)) = some (some (.string ⟨#[]⟩), 1, 16) := by kernel_rfl
theorem info9 : ∃ i0, Tryd.prog.info? 9 = some i0 ∧ i0.zero = some (.string ⟨#[]⟩) ∧ i0.size = 1 ∧ i0.bytes = 16 := by
  have h9 := i9
  cases hi : Tryd.prog.info? 9 with
  | none => rw [hi] at h9; cases h9
  | some i =>
    rw [hi] at h9
    simp only [Option.map_some, Option.some.injEq, Prod.mk.injEq] at h9
    exact ⟨i, rfl, h9.1, h9.2.1, h9.2.2⟩
def sAt (ts : List ByteArray) (i : Nat) : ByteArray := ts[i]?.getD ⟨#[]⟩
/-- v is a row of texts of the call's own, in a block from L on. -/
def SO (L : Nat) (w : World) (v : Value) (ts : List ByteArray) : Prop := w.ownsRow L 9 1 v ts.length (ts.map Value.string)
theorem SO.below {L : Nat} {w w' : World} {v : Value} {ts : List ByteArray} (h : SO L w v ts) (hb : Below w.heap.size w w') : SO L w' v ts := owns_on h (fun r _ h2 => hb.block r h2)
theorem SO.mono {L L' : Nat} {w : World} {v : Value} {ts : List ByteArray} (h : SO L w v ts) (hL : L' ≤ L) : SO L' w v ts := by
  refine ⟨h.1, ?_⟩
  rcases h.2 with h0 | ⟨g, cap, cur, h1, h2, h3⟩
  · exact .inl h0
  · exact .inr ⟨g, cap, cur, h1, by omega, h3⟩
/-- The slice at a reads as the texts ts, in a block before N. -/
def SRow (N : Nat) (w : World) (a : Option Addr) (ts : List ByteArray) : Prop := ts = [] ∨ ∃ g, a = some ⟨g, 0, none⟩ ∧ g < N ∧ ∀ i, i < ts.length → w.cell? ⟨g, i, none⟩ = some (.string (sAt ts i))
theorem SRow.on {N : Nat} {w w' : World} {a : Option Addr} {ts : List ByteArray} (h : SRow N w a ts) (hb : Below N w w') : SRow N w' a ts := by
  rcases h with h0 | ⟨g, ha, hg, hc⟩
  · exact .inl h0
  · exact .inr ⟨g, ha, hg, fun i hi => (hb.cell (p := ⟨g, i, none⟩) hg).trans (hc i hi)⟩
theorem SRow.at {N : Nat} {w w' : World} {a : Option Addr} {ts : List ByteArray} (h : SRow N w a ts) (hb : Below N w w') {i : Nat} (hi : i < ts.length) : ∃ g, a = some ⟨g, 0, none⟩ ∧ w'.cell? ⟨g, i, none⟩ = some (.string (sAt ts i)) := by
  rcases h.on hb with h0 | ⟨g, ha, hg, hc⟩
  · subst h0; simp at hi
  · exact ⟨g, ha, hc i hi⟩
theorem SO.row {L : Nat} {w : World} {v : Value} {ts : List ByteArray} (h : SO L w v ts) : ∃ a cap, v = .slice a ts.length cap ∧ SRow w.heap.size w a ts := by
  rcases h.2 with ⟨rfl, h0⟩ | ⟨g, cap, cur, rfl, hb, hh, _⟩
  · exact ⟨none, 0, by rw [h0], .inl (List.eq_nil_of_length_eq_zero h0)⟩
  · exact ⟨_, cap, rfl, .inr ⟨g, rfl, (Array.getElem?_eq_some_iff.1 hh).1, fun i hi => by
      rw [World.ownsRow.cellAt h i (by omega), List.getElem?_map, sAt, List.getElem?_eq_getElem hi]; rfl⟩⟩
theorem so_nil (L : Nat) (w : World) : SO L w (.slice none 0 0) [] := World.ownsRow_nil _ _ _ _
theorem so_empty (L : Nat) (w : World) {H : Nat} (hH : w.heap.size = H) (hL : L ≤ H) : SO L (w.alloc (.cells #[] 9)) (.slice (some ⟨H, 0, none⟩) 0 0) [] := by
  subst hH; exact World.ownsRow_lit w #[] 0 hL (by unfold maxLen; omega) rfl
theorem so_one (L : Nat) (w : World) (s : ByteArray) {H : Nat} (hH : w.heap.size = H) (hL : L ≤ H) : SO L (w.alloc (.cells #[.string s] 9)) (.slice (some ⟨H, 0, none⟩) 1 1) [s] := by
  subst hH; exact World.ownsRow_lit w #[.string s] 1 hL (by unfold maxLen; omega) rfl
/-- append of one row of texts to another. -/
theorem app_ss {w : World} {L L' : Nat} {v u : Value} {ts us : List ByteArray} (h : SO L w v ts) (k : SO L' w u us) (hl : ts.length + us.length ≤ 100000) (hL : L ≤ w.heap.size) :
    ∃ v' w', (appM #[73, 73] 73 #[v, u]).run Tryd.prog w = .ok v' w' ∧ SO L w' v' (ts ++ us) ∧ w.grownBy w' v.ownBlock ∧ ∀ b, v'.ownBlock = some b → v.ownBlock = some b ∨ w.heap.size ≤ b := by
  obtain ⟨i0, hi, hz0, hz1, hz2⟩ := info9
  rcases k.2 with ⟨rfl, h0⟩ | ⟨g, cap, cur, rfl, _, hg, _⟩
  · obtain rfl : us = [] := List.eq_nil_of_length_eq_zero h0
    have hrun := run_append_owned_none (P := Tryd.prog) w L 73 73 9 i0 1 Tryd.underlying73 hi v ts.length _ h
    exact ⟨v, w, hrun, by rw [List.append_nil]; exact h, ⟨rfl, rfl, rfl, Nat.le_refl _, fun _ _ _ => rfl⟩, fun b hb => .inl hb⟩
  · obtain ⟨v', w', hr, hown, hgrow, _, hat⟩ := run_append_own_at (P := Tryd.prog) w L 73 73 9 i0 (.string ⟨#[]⟩) 1 16 Tryd.underlying73 hi hz0 hz1 hz2 rfl (by decide) v ts.length _ h ⟨g, 0, none⟩ us.length cap (us.map Value.string) (by simp)
      (World.ownsRow.cells k rfl) (fun u hu => by obtain ⟨t, _, rfl⟩ := List.mem_map.1 hu; rfl) (by unfold maxLen; omega) (by omega) hL
    exact ⟨v', w', hr, by unfold SO; rw [List.length_append, List.map_append]; exact hown, hgrow, fun b hb => by
      rcases hat with h9 | h9
      · rw [h9] at hb; exact .inl hb
      · rw [h9] at hb; cases hb; exact .inr (Nat.le_refl _)⟩
/-- A row of texts under way, from block B on; what lies before B is as it was in w. -/
structure NW (B : Nat) (w : World) (v : Value) (ts : List ByteArray) (W : World) : Prop where
  bel : Below B w W
  own : SO B W v ts
  sz : B ≤ W.heap.size
theorem NW.below {B : Nat} {w : World} {v : Value} {ts : List ByteArray} {W W' : World} (h : NW B w v ts W) (hb : Below W.heap.size W W') : NW B w v ts W' :=
  ⟨h.bel.trans (hb.mono h.sz), h.own.below hb, Nat.le_trans h.sz hb.size⟩
theorem NW.app {B L' : Nat} {w : World} {v u : Value} {ts us : List ByteArray} {W : World} (h : NW B w v ts W) (k : SO L' W u us) (hl : ts.length + us.length ≤ 100000) :
    ∃ v' W', (appM #[73, 73] 73 #[v, u]).run Tryd.prog W = .ok v' W' ∧ NW B w v' (ts ++ us) W' ∧ W.grownBy W' v.ownBlock := by
  obtain ⟨v', W', hr, hown, hg, _⟩ := app_ss h.own k hl h.sz
  exact ⟨v', W', hr, ⟨h.bel.grown hg h.sz (fun k hk => (h.own.lt k hk).1), hown, Nat.le_trans h.sz hg.size⟩, hg⟩
theorem NW.app1 {B : Nat} {w : World} {v : Value} {ts : List ByteArray} {W : World} (h : NW B w v ts W) (s : ByteArray) {H : Nat} (hH : W.heap.size = H) (hl : ts.length + 1 ≤ 100000) :
    ∃ v' W', (appM #[73, 73] 73 #[v, .slice (some ⟨H, 0, none⟩) 1 1]).run Tryd.prog (W.alloc (.cells #[.string s] 9)) = .ok v' W' ∧ NW B w v' (ts ++ [s]) W' ∧ (W.alloc (.cells #[.string s] 9)).grownBy W' v.ownBlock :=
  (h.below ((Below.refl _ _).alloc (Nat.le_refl _) _)).app (so_one B W s hH (by have := h.sz; omega)) hl
def SsRet (w : World) (ts : List ByteArray) (e : Ending) (w' : World) : Prop := ∃ v, e = .returned v ∧ SO w.heap.size w' v ts ∧ Below w.heap.size w w'
/-- The variables of terms. -/
def varsL (l : List Tm) : List ByteArray := (l.filter (fun t => decide (t.kind = 0))).map (·.text)
theorem varsL_len (l : List Tm) : (varsL l).length ≤ l.length := by unfold varsL; rw [List.length_map]; exact List.length_filter_le _ _
theorem varsL_app (l r : List Tm) : varsL (l ++ r) = varsL l ++ varsL r := by unfold varsL; rw [List.filter_append, List.map_append]
theorem varsL_take {l : List Tm} {k : Nat} (h : k < l.length) : varsL (l.take (k + 1)) = if (tmAt l k).kind = 0 then varsL (l.take k) ++ [(tmAt l k).text] else varsL (l.take k) := by
  rw [List.take_succ_eq_append_getElem h, varsL_app, show l[k] = tmAt l k by simp [tmAt, h]]
  by_cases h0 : (tmAt l k).kind = 0
  · rw [if_pos h0]; simp [varsL, h0]
  · rw [if_neg h0]; simp [varsL, h0]
attribute [local go_sem ↓] app_rule
set_option maxRecDepth 100000 in
set_option maxHeartbeats 1000000 in
theorem names_calls (a : Option Addr) (l : List Tm) (c N : Nat) (w : World) (hN : N ≤ w.heap.size) (hr : TmRow N w a l) (hn : l.length ≤ 1000) : Calls Tryd.prog 24 #[.slice a l.length c] w (SsRet w (varsL l)) := by
  obtain ⟨B, hB⟩ : ∃ B, w.heap.size = B := ⟨_, rfl⟩
  have HB := Lib.hid hB
  obtain ⟨n, hl⟩ : ∃ n, l.length = n := ⟨_, rfl⟩
  have HL := Lib.hid hl
  have HR := Lib.hid hr
  have hNB : N ≤ B := by omega
  have I0 : Hid (NW B w (.slice (some ⟨B, 0, none⟩) 0 0) (varsL (l.take 0)) (w.alloc (.cells #[] 9))) := Lib.hid ⟨(Below.refl _ _).alloc (by omega) _, so_empty B w hB (Nat.le_refl _), by simp [hB]⟩
  rw [hl] at hn ⊢
  clear hr hB hl hN
  have BX := HB.out
  go_enter Tryd.func24, Tryd.ntmps24
  go_wp2_with fail
  go_loopw [3, 9] (fun v i wr => ∃ (k : Nat) (u : Value), k ≤ n ∧ i = .int .i64 k ∧ u = v ∧ Hid (NW B w u (varsL (l.take k)) wr)) (fun _ i _ => n - (intOf i).toNat)
  case atStart => exact ⟨0, _, Nat.zero_le _, rfl, rfl, I0⟩
  case round =>
    obtain ⟨k, u, hk, rfl, rfl, HA⟩ := hrel
    by_cases hlt : k < n
    · have hlT : k < l.length := by rw [HL.out]; exact hlt
      obtain ⟨g, hadr, _, f0, f1, f2⟩ := (HR.out.on (HA.out.bel.mono hNB)).at hlT
      have TS := Lib.hid (varsL_take hlT)
      have LL : Hid ((varsL (l.take k)).length + 1 ≤ 100000) := Lib.hid (by have := varsL_len (l.take k); rw [List.length_take] at this; omega)
      generalize varsL (l.take k) = acc at *
      generalize tmAt l k = t at *
      obtain ⟨tk, tt, tn⟩ := t
      simp only at f0 f1 f2 TS
      subst hadr
      have A3 := Lib.hid (HA.out.below ((Below.refl _ _).alloc (Nat.le_refl _) (.cells #[.int .i64 tk, .string tt, .int .i64 tn] 44)))
      by_cases h0 : tk = 0
      · subst h0
        rw [if_pos rfl] at TS
        obtain ⟨v', w7, hrun, A7, _⟩ := A3.out.app1 tt (H := wr.heap.size + 1) (by simp) LL.out
        have A8 : Hid (NW B w v' (varsL (l.take (k + 1))) w7) := Lib.hid (by rw [TS.out]; exact A7)
        clear A7
        go_wp2_with fail
        go_roundw
        case rel => exact ⟨k + 1, _, by omega, by go_num, rfl, A8⟩
        case measure => simp [intOf]; omega
      · have tz : ((tk : Int) == 0) = false := beq_eq_false_iff_ne.2 h0
        rw [if_neg h0] at TS
        have A8 : Hid (NW B w u (varsL (l.take (k + 1))) (wr.alloc (.cells #[.int .i64 tk, .string tt, .int .i64 tn] 44))) := Lib.hid (by rw [TS.out]; exact A3.out)
        clear h0
        go_wp2_with fail
        go_roundw
        case rel => exact ⟨k + 1, _, by omega, by go_num, rfl, A8⟩
        case measure => simp [intOf]; omega
    · obtain rfl : k = n := by omega
      have TL : Hid (l.take k = l) := Lib.hid (List.take_of_length_le (by rw [HL.out]; omega))
      rw [TL.out] at HA
      have RS : Hid (SO w.heap.size wr u (varsL l) ∧ Below w.heap.size w wr) := Lib.hid (by rw [HB.out]; exact ⟨HA.out.own, HA.out.bel⟩)
      go_wp2_with fail
      go_ret
      exact ⟨_, rfl, RS.out.1, RS.out.2⟩
set_option maxRecDepth 100000 in
set_option maxHeartbeats 1000000 in
theorem termVars_calls (a : Option Addr) (l : List Tm) (c N : Nat) (w : World) (hN : N ≤ w.heap.size) (hr : TmRow N w a l) (hn : l.length ≤ 1000) : Calls Tryd.prog 46 #[.slice a l.length c] w (SsRet w (varsL l)) := by
  obtain ⟨B, hB⟩ : ∃ B, w.heap.size = B := ⟨_, rfl⟩
  have HB := Lib.hid hB
  obtain ⟨n, hl⟩ : ∃ n, l.length = n := ⟨_, rfl⟩
  have HL := Lib.hid hl
  have HR := Lib.hid hr
  have hNB : N ≤ B := by omega
  have I0 : Hid (NW B w (.slice none 0 0) (varsL (l.take 0)) w) := Lib.hid ⟨Below.refl _ _, so_nil B w, by omega⟩
  rw [hl] at hn ⊢
  clear hr hB hl hN
  have BX := HB.out
  go_enter Tryd.func46, Tryd.ntmps46
  go_wp2_with fail
  go_loopw [3, 8] (fun v i wr => ∃ (k : Nat) (u : Value), k ≤ n ∧ i = .int .i64 k ∧ u = v ∧ Hid (NW B w u (varsL (l.take k)) wr)) (fun _ i _ => n - (intOf i).toNat)
  case atStart => exact ⟨0, _, Nat.zero_le _, rfl, rfl, I0⟩
  case round =>
    obtain ⟨k, u, hk, rfl, rfl, HA⟩ := hrel
    by_cases hlt : k < n
    · have hlT : k < l.length := by rw [HL.out]; exact hlt
      obtain ⟨g, hadr, _, f0, f1, f2⟩ := (HR.out.on (HA.out.bel.mono hNB)).at hlT
      have TS := Lib.hid (varsL_take hlT)
      have LL : Hid ((varsL (l.take k)).length + 1 ≤ 100000) := Lib.hid (by have := varsL_len (l.take k); rw [List.length_take] at this; omega)
      generalize varsL (l.take k) = acc at *
      generalize tmAt l k = t at *
      obtain ⟨tk, tt, tn⟩ := t
      simp only at f0 f1 f2 TS
      subst hadr
      have A3 := Lib.hid (HA.out.below ((Below.refl _ _).alloc (Nat.le_refl _) (.cells #[.int .i64 tk, .string tt, .int .i64 tn] 44)))
      by_cases h0 : tk = 0
      · subst h0
        rw [if_pos rfl] at TS
        obtain ⟨v', w7, hrun, A7, _⟩ := A3.out.app1 tt (H := wr.heap.size + 1) (by simp) LL.out
        have A8 : Hid (NW B w v' (varsL (l.take (k + 1))) w7) := Lib.hid (by rw [TS.out]; exact A7)
        clear A7
        go_wp2_with fail
        go_roundw
        case rel => exact ⟨k + 1, _, by omega, by go_num, rfl, A8⟩
        case measure => simp [intOf]; omega
      · have tz : ((tk : Int) == 0) = false := beq_eq_false_iff_ne.2 h0
        rw [if_neg h0] at TS
        have A8 : Hid (NW B w u (varsL (l.take (k + 1))) (wr.alloc (.cells #[.int .i64 tk, .string tt, .int .i64 tn] 44))) := Lib.hid (by rw [TS.out]; exact A3.out)
        clear h0
        go_wp2_with fail
        go_roundw
        case rel => exact ⟨k + 1, _, by omega, by go_num, rfl, A8⟩
        case measure => simp [intOf]; omega
    · obtain rfl : k = n := by omega
      have TL : Hid (l.take k = l) := Lib.hid (List.take_of_length_le (by rw [HL.out]; omega))
      rw [TL.out] at HA
      have RS : Hid (SO w.heap.size wr u (varsL l) ∧ Below w.heap.size w wr) := Lib.hid (by rw [HB.out]; exact ⟨HA.out.own, HA.out.bel⟩)
      go_wp2_with fail
      go_ret
      exact ⟨_, rfl, RS.out.1, RS.out.2⟩
theorem sAt_get {ts : List ByteArray} {k : Nat} (h : k < ts.length) : sAt ts k = ts[k] := by simp [sAt, h]
set_option maxRecDepth 100000 in
set_option maxHeartbeats 1000000 in
/-- The law's same, at two rows with the same texts. -/
theorem same_calls (v u : Value) (ts : List ByteArray) (L L' : Nat) (w : World) (hv : SO L w v ts) (hu : SO L' w u ts) (hl : ts.length ≤ 100000) : Calls Tryd.prog 25 #[v, u] w (TrueRet w) := by
  obtain ⟨a, c, rfl, ha⟩ := hv.row
  obtain ⟨b, d, rfl, hb⟩ := hu.row
  obtain ⟨B, hB⟩ : ∃ B, w.heap.size = B := ⟨_, rfl⟩
  have HB := Lib.hid hB
  obtain ⟨n, hn⟩ : ∃ n, ts.length = n := ⟨_, rfl⟩
  have HN := Lib.hid hn
  rw [hB] at ha hb
  have HA := Lib.hid ha
  have HC := Lib.hid hb
  have tn : ((n : Int) != (n : Int)) = false := by simp
  rw [hn] at hl ⊢
  clear hv hu ha hb hB hn
  go_enter Tryd.func25, Tryd.ntmps25
  go_wp2_with fail
  go_loopw [13] (fun i wr => ∃ k : Nat, k ≤ n ∧ i = .int .i64 k ∧ Hid (Below B w wr)) (fun i _ => n - (intOf i).toNat)
  case atStart => exact ⟨0, Nat.zero_le _, rfl, Lib.hid (Below.refl _ _)⟩
  case round =>
    obtain ⟨k, hk, rfl, HW⟩ := hrel
    by_cases hlt : k < n
    · have hlT : k < ts.length := by rw [HN.out]; exact hlt
      obtain ⟨g, rfl, f0⟩ := HA.out.at HW.out hlT
      obtain ⟨g2, rfl, f1⟩ := HC.out.at HW.out hlT
      generalize sAt ts k = s at *
      have i2 : (k : Int) < (n : Int) := by omega
      have i3 : (0 : Int) ≤ (k : Int) := by omega
      go_wp2_with fail
      go_quiet (fail)
      go_wp2_with fail
      go_roundw
      case rel => exact ⟨k + 1, by omega, by go_num, Lib.hid (by first | exact below_drewN HW.out _ | exact below_drewN (below_drewN HW.out _) _)⟩
      case measure => simp [intOf]; omega
    · obtain rfl : k = n := by omega
      go_wp2_with fail
      go_ret
      exact ⟨rfl, by rw [HB.out]; exact HW.out⟩
end Go.Proofs.YtaglbeokecbihaaDoor
