import Derived.Test.YtaglbeokecbihaaDoorSzZ
import Derived.Test.YtaglbeokecbihaaDoorSzK
/- Declarations as they are written; rules in a row that grows; sizes of texts. Written by mkszi.py. -/
namespace Go.Proofs.YtaglbeokecbihaaDoor
open Go.RowKit
set_option linter.unusedVariables false
set_option linter.unusedSimpArgs false

theorem write_calls (ag : Nat) (h5 : ag < 5) (pred : ByteArray) (a : Option Addr) (l : List Tm) (c : Nat) (ba : Option Addr) (ps : List Pt) (bc : Nat) (at9 : Int) (N : Nat) (w : World) (hN : N ≤ w.heap.size) (hr : TmRow N w a l) (hps : PtRow N w ba ps) (hs : STab w) (hp : pred.size ≤ 100) (hn : l.length ≤ 1000) (hpl : ps.length ≤ 10) (hl1 : ag ≠ 0 → 1 ≤ l.length ∧ l.length ≤ c) : Calls Tryd.prog 34 #[.agg #[.string pred, .slice a l.length c, .int .i64 (ag : Nat), .slice ba ps.length bc, .int .i64 at9]] w (StrRet w ⟨(ruleB ag pred l ps).toArray⟩) := by
  by_cases h0 : ag = 0
  · subst h0; exact write_no pred a l c ba ps bc at9 N w hN hr hps hs hp hn hpl
  · by_cases hz1 : l.length = 1
    · exact write_ag0 ag h0 h5 pred a l c ba ps bc at9 N w hN hr hps hs hp hn hpl (hl1 h0).1 (hl1 h0).2 hz1
    · exact write_agn ag h0 h5 pred a l c ba ps bc at9 N w hN hr hps hs hp hn hpl (hl1 h0).1 (hl1 h0).2 hz1
/-- A declaration as it is written. -/
def declB (pred : ByteArray) (mx : Bool) : Bytes := (if mx = true then [64, 109, 97, 120, 32] else [64, 109, 105, 110, 32]) ++ bs pred ++ [46]
set_option maxRecDepth 100000 in
theorem declString_calls (pred : ByteArray) (mx : Bool) (at9 : Int) (w : World) (hp : pred.size ≤ 100) : Calls Tryd.prog 36 #[.agg #[.string pred, .bool mx, .int .i64 at9]] w (StrRet w ⟨(declB pred mx).toArray⟩) := by
  cases mx with
  | true =>
    have E : Hid (⟨#[64, 109, 97, 120, 32]⟩ ++ pred ++ ⟨#[46]⟩ = (⟨(declB pred true).toArray⟩ : ByteArray)) := Lib.hid (by apply ByteArray.ext; simp [declB, bs])
    go_enter Tryd.func36, Tryd.ntmps36
    go_wp2_with fail
    go_ret
    exact ⟨ret_s E.out, (Below.refl _ _).alloc (Nat.le_refl _) _⟩
  | false =>
    have E : Hid (⟨#[64, 109, 105, 110, 32]⟩ ++ pred ++ ⟨#[46]⟩ = (⟨(declB pred false).toArray⟩ : ByteArray)) := Lib.hid (by apply ByteArray.ext; simp [declB, bs])
    go_enter Tryd.func36, Tryd.ntmps36
    go_wp2_with fail
    go_ret
    exact ⟨ret_s E.out, (Below.refl _ _).alloc (Nat.le_refl _) _⟩
/-- A rule that was made. -/
structure RV where
  pred : ByteArray
  l : List Tm
  ag : Nat
  ps : List Pt
  at9 : Int
/-- The cells cs are the rule r; what it leads to lies before N. -/
def RuV (N : Nat) (w : World) (r : RV) (cs : List Value) : Prop := ∃ (a : Option Addr) (c : Nat) (b : Option Addr) (d : Nat), cs = [.string r.pred, .slice a r.l.length c, .int .i64 (r.ag : Nat), .slice b r.ps.length d, .int .i64 r.at9] ∧ TmRow N w a r.l ∧ PtRow N w b r.ps ∧ (r.ag ≠ 0 → r.l.length ≤ c)
def RuK (L : Nat) (q : Option Nat) (W : World) (r : RV) (cs : List Value) : Prop := ∀ w' : World, (∀ k, L ≤ k → k < W.heap.size → some k ≠ q → w'.heap[k]? = W.heap[k]?) → RuV W.heap.size w' r cs
theorem PtRow.mono {N M : Nat} {w : World} {a : Option Addr} {l : List Pt} (h : PtRow N w a l) (hM : N ≤ M) : PtRow M w a l := by
  rcases h with h0 | ⟨g, ha, hg, hc⟩
  · exact .inl h0
  · refine .inr ⟨g, ha, by omega, fun i hi => ?_⟩
    obtain ⟨v0, v1, v2, v3, v4, v5, v6, v7, v8, v9, v10, v11, v12, v13, v14, v15, hv, hr⟩ := hc i hi
    exact ⟨v0, v1, v2, v3, v4, v5, v6, v7, v8, v9, v10, v11, v12, v13, v14, v15, hv.mono hM, hr⟩
theorem RuV.mono {N M : Nat} {w : World} {r : RV} {cs : List Value} (h : RuV N w r cs) (hM : N ≤ M) : RuV M w r cs := by
  obtain ⟨a, c, b, d, h1, h2, h3, h4⟩ := h
  exact ⟨a, c, b, d, h1, h2.mono hM, h3.mono hM, h4⟩
theorem RuK.step {L : Nat} {q q' : Option Nat} {W W' : World} {r : RV} {cs : List Value} (h : RuK L q W r cs) (hs : W.heap.size ≤ W'.heap.size) (hk : ∀ k, L ≤ k → k < W.heap.size → some k ≠ q → W'.heap[k]? = W.heap[k]?) (hq : ∀ b, q' = some b → q = some b ∨ W.heap.size ≤ b) : RuK L q' W' r cs := fun w'' h'' =>
  (h w'' (fun k h1 h2 h3 => (h'' k h1 (by omega) (fun e => by
    rcases hq k e.symm with h4 | h4
    · exact h3 h4.symm
    · omega)).trans (hk k h1 h2 h3))).mono hs
theorem RuK.low {L L' : Nat} {q : Option Nat} {W : World} {r : RV} {cs : List Value} (h : RuK L q W r cs) (hL : L' ≤ L) : RuK L' q W r cs := fun w' h' => h w' (fun k h1 h2 h3 => h' k (by omega) h2 h3)
def ruAt (l : List RV) (i : Nat) : RV := l[i]?.getD ⟨⟨#[]⟩, [], 0, [], 0⟩
/-- A row of rules under way, all from block L on. -/
def RRow (L : Nat) (W : World) (v : Value) (rs : List RV) : Prop := ∃ css : List (List Value), css.length = rs.length ∧ (∀ cs ∈ css, cs.length = 5) ∧ W.ownsRow L 71 5 v rs.length css.flatten ∧ ∀ i, i < rs.length → RuK L v.ownBlock W (ruAt rs i) (css[i]?.getD [])
theorem rrow_nil (L : Nat) (W : World) : RRow L W (.slice none 0 0) [] := ⟨[], rfl, (fun _ h => by cases h), World.ownsRow_nil _ _ _ _, (fun i hi => absurd hi (Nat.not_lt_zero i))⟩
theorem RRow.shape {L : Nat} {W : World} {v : Value} {rs : List RV} (h : RRow L W v rs) : ∃ a c, v = .slice a rs.length c ∧ ∀ b, v.ownBlock = some b → L ≤ b ∧ b < W.heap.size := by
  obtain ⟨css, h1, h2, h3, h4⟩ := h
  rcases h3.2 with ⟨rfl, h0⟩ | ⟨g, cap, cur, rfl, hb, hh, _⟩
  · exact ⟨none, 0, by rw [h0], (fun b hb => by cases hb)⟩
  · exact ⟨_, cap, rfl, h3.lt⟩
theorem RRow.on {L : Nat} {W W' : World} {v : Value} {rs : List RV} (h : RRow L W v rs) (hs : W.heap.size ≤ W'.heap.size) (hk : ∀ k, L ≤ k → k < W.heap.size → W'.heap[k]? = W.heap[k]?) : RRow L W' v rs := by
  obtain ⟨css, h1, h2, h3, h4⟩ := h
  exact ⟨css, h1, h2, owns_on h3 hk, fun i hi => (h4 i hi).step hs (fun k a b _ => hk k a b) (fun b hb => .inl hb)⟩
theorem i71 : (Tryd.prog.info? 71).map (fun i => (i.zero, i.size, i.bytes)) = some (some (.agg #[.string ⟨#[]⟩, .slice none 0 0, .int .i64 0, .slice none 0 0, .int .i64 0]), 5, 80) := by kernel_rfl
/-- A rule, appended. -/
theorem RRow.app {L : Nat} {W : World} {v : Value} {rs : List RV} (h : RRow L W v rs) (hL : L ≤ W.heap.size) {r : RV} {v0 v1 v2 v3 v4 : Value} (hk : RuK L v.ownBlock W r [v0, v1, v2, v3, v4]) (h1 : ∀ u ∈ [v0, v1, v2, v3, v4], u.oneCell' = true) (hl : rs.length ≤ 1000) {H : Nat} (hH : W.heap.size = H) :
    ∃ v' W7, (appM #[81, 81] 81 #[v, .slice (some ⟨H, 0, none⟩) 1 1]).run Tryd.prog (W.alloc (.cells #[v0, v1, v2, v3, v4] 71)) = .ok v' W7 ∧ RRow L W7 v' (rs ++ [r]) ∧ (W.alloc (.cells #[v0, v1, v2, v3, v4] 71)).grownBy W7 v.ownBlock := by
  subst hH
  obtain ⟨i0, hi0, hz0, hz1, hz2⟩ : ∃ i0, Tryd.prog.info? 71 = some i0 ∧ i0.zero = some (.agg #[.string ⟨#[]⟩, .slice none 0 0, .int .i64 0, .slice none 0 0, .int .i64 0]) ∧ i0.size = 5 ∧ i0.bytes = 80 := by
    have h9 := i71
    cases hi : Tryd.prog.info? 71 with
    | none => rw [hi] at h9; cases h9
    | some i =>
      rw [hi] at h9
      simp only [Option.map_some, Option.some.injEq, Prod.mk.injEq] at h9
      exact ⟨i, rfl, h9.1, h9.2.1, h9.2.2⟩
  have ba : Below W.heap.size W (W.alloc (.cells #[v0, v1, v2, v3, v4] 71)) := (Below.refl _ _).alloc (Nat.le_refl _) _
  have hsa : (W.alloc (.cells #[v0, v1, v2, v3, v4] 71)).heap.size = W.heap.size + 1 := by simp
  have h5 := h.on (W' := W.alloc (.cells #[v0, v1, v2, v3, v4] 71)) (by omega) (fun k a b => ba.block k b)
  have k5 : RuK L v.ownBlock (W.alloc (.cells #[v0, v1, v2, v3, v4] 71)) r [v0, v1, v2, v3, v4] := hk.step (by omega) (fun k _ b _ => ba.block k b) (fun b hb => .inl hb)
  obtain ⟨css, g1, g2, g3, g4⟩ := h5
  have zc := box16 W #[v0, v1, v2, v3, v4] 71
  obtain ⟨v', W7, hr, hown, hgrow, _, hat⟩ := run_append_own_at (P := Tryd.prog) (W.alloc (.cells #[v0, v1, v2, v3, v4] 71)) L 81 81 71 i0 _ 5 80 Tryd.underlying81 hi0 hz0 hz1 hz2 rfl (by decide) v rs.length css.flatten g3 ⟨W.heap.size, 0, none⟩ 1 1 [v0, v1, v2, v3, v4] rfl (fun j u hu => by
    rw [show (⟨W.heap.size, 0, none⟩ : Addr).add j = ⟨W.heap.size, j, none⟩ by simp only [Addr.add]; split <;> simp_all]
    exact cellAt zc (by simpa using hu)) h1 (by unfold maxLen; omega) (by omega) (by omega)
  have hat' : ∀ b, v'.ownBlock = some b → v.ownBlock = some b ∨ (W.alloc (.cells #[v0, v1, v2, v3, v4] 71)).heap.size ≤ b := fun b hb => by
    rcases hat with h9 | h9
    · rw [h9] at hb; exact .inl hb
    · rw [h9] at hb; cases hb; exact .inr (Nat.le_refl _)
  refine ⟨v', W7, hr, ⟨css ++ [[v0, v1, v2, v3, v4]], by simp [g1], fun cs hc => ?_, ?_, fun i hi => ?_⟩, hgrow⟩
  · rcases List.mem_append.1 hc with hc | hc
    · exact g2 cs hc
    · rw [List.mem_singleton.1 hc]; rfl
  · rw [List.length_append, List.flatten_append]; simpa using hown
  · rcases Nat.lt_or_ge i rs.length with h9 | h9
    · rw [show ruAt (rs ++ [r]) i = ruAt rs i by simp only [ruAt]; rw [List.getElem?_append_left h9], List.getElem?_append_left (by omega)]
      exact (g4 i h9).step hgrow.size (fun k _ b c => hgrow.block k b c) hat'
    · obtain rfl : i = rs.length := by simp at hi; omega
      rw [show ruAt (rs ++ [r]) rs.length = r by simp [ruAt], List.getElem?_append_right (by omega), g1, Nat.sub_self]
      exact k5.step hgrow.size (fun k _ b c => hgrow.block k b c) hat'
/-- One rule of the row, told as the walks read it. -/
theorem RRow.at {L : Nat} {W : World} {v : Value} {rs : List RV} (h : RRow L W v rs) {i : Nat} (hi : i < rs.length) {w' : World} (hk : ∀ k, L ≤ k → k < W.heap.size → w'.heap[k]? = W.heap[k]?) : ∃ g cap x0 x1 x2 x3 x4, v = .slice (some ⟨g, 0, none⟩) rs.length cap ∧ RuV W.heap.size w' (ruAt rs i) [x0, x1, x2, x3, x4] ∧ w'.cell? ⟨g, i * 5, none⟩ = some x0 ∧ w'.cell? ⟨g, i * 5 + 1, none⟩ = some x1 ∧ w'.cell? ⟨g, i * 5 + 2, none⟩ = some x2 ∧ w'.cell? ⟨g, i * 5 + 3, none⟩ = some x3 ∧ w'.cell? ⟨g, i * 5 + 4, none⟩ = some x4 := by
  obtain ⟨css, h1, h2, h3, h4⟩ := h
  rcases h3.2 with ⟨rfl, h0⟩ | ⟨g, cap, cur, rfl, hb, hh, hrest⟩
  · omega
  · have hg := (Array.getElem?_eq_some_iff.1 hh).1
    have cl : ∀ j, j < 5 → w'.cell? ⟨g, i * 5 + j, none⟩ = (css[i]?.getD [])[j]? := fun j hj => by
      rw [World.cell?_of_block (a := ⟨g, i * 5 + j, none⟩) (hk g hb hg), World.ownsRow.cellAt h3 (i * 5 + j) (by omega), flat16 css h2 i j (by omega) hj]
    have hlen : (css[i]?.getD []).length = 5 := by
      rw [List.getElem?_eq_getElem (by omega)]; exact h2 _ (List.getElem_mem _)
    have hp := h4 i hi w' (fun k a b _ => hk k a b)
    generalize css[i]?.getD [] = cs at *
    match cs, hlen with
    | [x0, x1, x2, x3, x4], _ => exact ⟨g, cap, x0, x1, x2, x3, x4, rfl, hp, cl 0 (by omega), cl 1 (by omega), cl 2 (by omega), cl 3 (by omega), cl 4 (by omega)⟩
def smallP : Pt → Prop
  | .pos _ l => l.length ≤ 6
  | .neg _ l => l.length ≤ 6
  | .cmp _ _ _ => True
  | .letx _ x => x.nodes ≤ 40
theorem ptT_small {p : PT} (h : fewP p) : smallP (ptT p) := by
  have hn : (xM p.e).nodes ≤ 40 := Nat.le_trans (cnt_nodes p.e 0 h.2) h.2
  have hl : (atomL p.T).length ≤ 6 := by
    unfold atomL
    split
    · simp
    · rw [List.length_map]; exact h.1
  unfold ptT ptM
  split
  · exact hl
  · split
    · trivial
    · split
      · exact hn
      · exact hl
theorem atomB_small {ag : Nat} {pred : ByteArray} {l : List Tm} (hl : ∀ t ∈ l, TmOK t) (hg : ag < 5) (hp : pred.size ≤ 100) (hn : l.length ≤ 6) : (atomB ag pred l).length ≤ 402 := by
  have h1 := outA_len hl hg l.length (Nat.le_refl _)
  unfold atomB
  simp only [List.length_append, List.length_cons, List.length_nil, bs_len]
  omega
theorem partT_small {N : Nat} {w : World} {p : Pt} {cs : Array Value} (h : PtV N w p cs) (hs : smallP p) : (partT p).size ≤ 2600 := by
  cases p with
  | pos pred l =>
    obtain ⟨a, c, _, h2, h3, h4⟩ := h
    have := atomB_small h2.1 (show 0 < 5 by omega) h3 hs
    show (atomT 0 pred l).size ≤ _
    have e : (atomT 0 pred l).size = (atomB 0 pred l).length := size_lit _
    omega
  | neg pred l =>
    obtain ⟨a, c, _, h2, h3, h4⟩ := h
    have := atomB_small h2.1 (show 0 < 5 by omega) h3 hs
    show (⟨#[110, 111, 116, 32]⟩ ++ atomT 0 pred l).size ≤ _
    have e : (atomT 0 pred l).size = (atomB 0 pred l).length := size_lit _
    rw [ByteArray.size_append, e]; show 4 + _ ≤ _; omega
  | cmp op ta tb =>
    obtain ⟨_, h2, h3, h4⟩ := h
    have := termT_size h3
    have := termT_size h4
    have := colS_size op h2
    show (cmpT op ta tb).size ≤ _
    unfold cmpT
    simp only [ByteArray.size_append]
    show _ + 1 + _ + 1 + _ ≤ _
    omega
  | letx nm x =>
    obtain ⟨k1, k2, k3, k4, k5, k6, k7, _, h2, h3, h4⟩ := h
    have h5 := exprB_len h2
    have h6 : x.nodes ≤ 40 := hs
    show (letT nm x).size ≤ _
    have e : (exprT x).size = (exprB x).length := size_lit _
    unfold letT
    rw [ByteArray.size_append, ByteArray.size_append, e]
    show _ + 4 + _ ≤ _
    omega
theorem outP_small {N : Nat} {w : World} {a : Option Addr} {l : List Pt} (h : PtRow N w a l) (hs : ∀ p ∈ l, smallP p) : ∀ k, k ≤ l.length → (outP l k).length ≤ 2610 * k
  | 0, _ => by simp [outP]
  | k + 1, hk => by
    have ih := outP_small h hs k (by omega)
    obtain ⟨g, v0, v1, v2, v3, v4, v5, v6, v7, v8, v9, v10, v11, v12, v13, v14, v15, _, hv, _⟩ := h.at (Below.refl _ _) (show k < l.length by omega)
    have := partT_small hv (hs _ (by simp only [ptAt, List.getElem?_eq_getElem (show k < l.length by omega), Option.getD_some]; exact List.getElem_mem _))
    simp only [outP, List.length_append, bs_len]
    split <;> simp <;> omega
theorem ruleB_small {N : Nat} {w : World} {a b : Option Addr} {ag : Nat} {pred : ByteArray} {l : List Tm} {ps : List Pt} (hr : TmRow N w a l) (hp : PtRow N w b ps) (hs : ∀ p ∈ ps, smallP p) (hg : ag < 5) (hpr : pred.size ≤ 100) (hl : l.length ≤ 6) (hn : ps.length ≤ 8) : (ruleB ag pred l ps).length ≤ 22000 := by
  have h1 := atomB_small hr.1 hg hpr hl
  have h2 := outP_small hp hs ps.length (Nat.le_refl _)
  unfold ruleB
  simp only [List.length_append, List.length_cons, List.length_nil]
  omega
end Go.Proofs.YtaglbeokecbihaaDoor

/- A program as it lies in memory; Program.String. Written by mkszj.py. -/
namespace Go.Proofs.YtaglbeokecbihaaDoor
open Go.RowKit
set_option linter.unusedVariables false
set_option linter.unusedSimpArgs false

/-- A declaration: its predicate, @max or @min, its place. -/
abbrev DV := ByteArray × Bool × Int
def deAt (l : List DV) (i : Nat) : DV := l[i]?.getD (⟨#[]⟩, false, 0)
def DRow (N : Nat) (w : World) (a : Option Addr) (ds : List DV) : Prop := ds = [] ∨ ∃ g, a = some ⟨g, 0, none⟩ ∧ g < N ∧ ∀ i, i < ds.length → w.cell? ⟨g, i * 3, none⟩ = some (.string (deAt ds i).1) ∧ w.cell? ⟨g, i * 3 + 1, none⟩ = some (.bool (deAt ds i).2.1) ∧ w.cell? ⟨g, i * 3 + 2, none⟩ = some (.int .i64 (deAt ds i).2.2)
theorem DRow.on {N : Nat} {w w' : World} {a : Option Addr} {ds : List DV} (h : DRow N w a ds) (hb : Below N w w') : DRow N w' a ds := by
  rcases h with h0 | ⟨g, ha, hg, hc⟩
  · exact .inl h0
  · exact .inr ⟨g, ha, hg, fun i hi => ⟨(hb.cell (p := ⟨g, _, none⟩) hg).trans (hc i hi).1, (hb.cell (p := ⟨g, _, none⟩) hg).trans (hc i hi).2.1, (hb.cell (p := ⟨g, _, none⟩) hg).trans (hc i hi).2.2⟩⟩
theorem DRow.at {N : Nat} {w : World} {a : Option Addr} {ds : List DV} (h : DRow N w a ds) {i : Nat} (hi : i < ds.length) : ∃ g, a = some ⟨g, 0, none⟩ ∧ w.cell? ⟨g, i * 3, none⟩ = some (.string (deAt ds i).1) ∧ w.cell? ⟨g, i * 3 + 1, none⟩ = some (.bool (deAt ds i).2.1) ∧ w.cell? ⟨g, i * 3 + 2, none⟩ = some (.int .i64 (deAt ds i).2.2) := by
  rcases h with h0 | ⟨g, ha, hg, hc⟩
  · subst h0; simp at hi
  · exact ⟨g, ha, hc i hi⟩
/-- The slice at a reads as the rules rs, whatever becomes of the blocks from N on. -/
def RuRow (N : Nat) (w : World) (a : Option Addr) (rs : List RV) : Prop := ∀ w', Below N w w' → rs = [] ∨ ∃ g, a = some ⟨g, 0, none⟩ ∧ ∀ i, i < rs.length → ∃ x0 x1 x2 x3 x4, RuV N w' (ruAt rs i) [x0, x1, x2, x3, x4] ∧ w'.cell? ⟨g, i * 5, none⟩ = some x0 ∧ w'.cell? ⟨g, i * 5 + 1, none⟩ = some x1 ∧ w'.cell? ⟨g, i * 5 + 2, none⟩ = some x2 ∧ w'.cell? ⟨g, i * 5 + 3, none⟩ = some x3 ∧ w'.cell? ⟨g, i * 5 + 4, none⟩ = some x4
noncomputable def ruB (r : RV) : Bytes := ruleB r.ag r.pred r.l r.ps ++ [10]
def deB (d : DV) : Bytes := declB d.1 d.2.1 ++ [10]
noncomputable def progB (ds : List DV) (rs : List RV) : Bytes := ds.flatMap deB ++ rs.flatMap ruB
structure RuOK (r : RV) : Prop where
  a5 : r.ag < 5
  p : r.pred.size ≤ 100
  l : r.l.length ≤ 6
  ps : r.ps.length ≤ 8
  sm : ∀ p ∈ r.ps, smallP p
  l1 : r.ag ≠ 0 → 1 ≤ r.l.length
theorem deB_len {d : DV} (h : d.1.size ≤ 100) : (deB d).length ≤ 107 := by
  unfold deB declB
  simp only [List.length_append, bs_len, List.length_cons, List.length_nil]
  split <;> simp <;> omega
theorem flat_le {α : Type} {f : α → Bytes} {c : Nat} : ∀ (l : List α), (∀ x ∈ l, (f x).length ≤ c) → (l.flatMap f).length ≤ c * l.length
  | [], _ => by simp
  | x :: l, h => by
    have h1 := h x (List.mem_cons_self ..)
    have h2 := flat_le l (fun y hy => h y (List.mem_cons_of_mem _ hy))
    rw [List.flatMap_cons, List.length_append, List.length_cons, Nat.mul_add]; omega
theorem flat_take {α : Type} {f : α → Bytes} {l : List α} {k : Nat} (h : k < l.length) : (l.take (k + 1)).flatMap f = (l.take k).flatMap f ++ f (l[k]'h) := by
  rw [List.take_succ_eq_append_getElem h, List.flatMap_append]; simp
theorem deAt_get {l : List DV} {k : Nat} (h : k < l.length) : l[k] = deAt l k := by simp [deAt, h]
theorem ruAt_get {l : List RV} {k : Nat} (h : k < l.length) : l[k] = ruAt l k := by simp [ruAt, h]
set_option maxRecDepth 100000 in
set_option maxHeartbeats 4000000 in
theorem progString_calls (P : Nat) (da : Option Addr) (ds : List DV) (dc : Nat) (ra : Option Addr) (rs : List RV) (rc N : Nat) (w : World) (hN : N ≤ w.heap.size) (hPN : P < N) (hbox : w.heap[P]? = some (.cells #[.slice da ds.length dc, .slice ra rs.length rc] 83 (0, 0))) (hd : DRow N w da ds) (hr : RuRow N w ra rs) (hs : STab w) (hdp : ∀ d ∈ ds, d.1.size ≤ 100) (hro : ∀ r ∈ rs, RuOK r) (hdl : ds.length ≤ 6) (hrl : rs.length ≤ 12) (hrb : ∀ r ∈ rs, (ruB r).length ≤ 22001) :
    Calls Tryd.prog 9 #[.pointer (some ⟨P, 0, none⟩)] w (StrRet w ⟨(progB ds rs).toArray⟩) := by
  obtain ⟨M, hM⟩ : ∃ M, w.heap.size = M := ⟨_, rfl⟩
  have HM := Lib.hid hM
  have h6 : 6 ≤ M := by have := hs.sz; omega
  have hNM : N ≤ M := by omega
  have HD := Lib.hid hd
  have HR := Lib.hid hr
  have HS := Lib.hid hs
  have HDP := Lib.hid hdp
  have HRO := Lib.hid hro
  have HRB := Lib.hid hrb
  obtain ⟨nd, hnd⟩ : ∃ n, ds.length = n := ⟨_, rfl⟩
  obtain ⟨nr, hnr⟩ : ∃ n, rs.length = n := ⟨_, rfl⟩
  have HND := Lib.hid hnd
  have HNR := Lib.hid hnr
  rw [hnd, hnr] at hbox
  rw [hnd] at hdl
  rw [hnr] at hrl
  have HBX := Lib.hid hbox
  have hPM : P < M := by omega
  have D0 := Lib.hid (bld_new w hM)
  have B0 : Hid (Below M w (w.alloc (.cells #[.pointer none, .slice none 0 0] 93))) := Lib.hid ((Below.refl M w).alloc (by omega) _)
  have z0 := (B0.out.block P hPM).trans hbox
  have c0 := cellAt (i := 0) z0 rfl
  have hPw : ¬ P = w.heap.size := by omega
  clear hM hd hr hs hdp hro hnd hnr hbox z0 hrb
  have MX := HM.out
  go_enter Tryd.func9, Tryd.ntmps9
  go_wp2_with fail
  clear c0
  go_loopw [13] (fun i wr => ∃ k : Nat, k ≤ nd ∧ i = .int .i64 k ∧ Hid (Bld M ((ds.take k).flatMap deB) wr) ∧ Hid (Below M w wr)) (fun i _ => nd - (intOf i).toNat)
  case atStart => exact ⟨0, Nat.zero_le _, rfl, D0, B0⟩
  case round =>
    obtain ⟨k, hk, rfl, HB, HW⟩ := hrel
    by_cases hlt : k < nd
    · have hlD : k < ds.length := by rw [HND.out]; exact hlt
      obtain ⟨g, hadr, f0, f1, f2⟩ := (HD.out.on (HW.out.mono hNM)).at hlD
      have TS := Lib.hid (flat_take (f := deB) hlD)
      have hdp := HDP.out _ (List.getElem_mem hlD)
      rw [deAt_get hlD] at TS hdp
      have LA : Hid (((ds.take k).flatMap deB).length ≤ 700) := Lib.hid (by
        have := flat_le (f := deB) (c := 107) (ds.take k) (fun d h9 => deB_len (HDP.out d (List.mem_of_mem_take h9)))
        rw [List.length_take] at this
        have h8 : min k ds.length ≤ 6 := by omega
        have := Nat.mul_le_mul_left 107 h8
        omega)
      have hdb := deB_len hdp
      have DE : Hid (deB (deAt ds k) = declB (deAt ds k).1 (deAt ds k).2.1 ++ [10]) := Lib.hid rfl
      generalize (ds.take k).flatMap deB = acc at *
      generalize deB (deAt ds k) = tb at *
      generalize deAt ds k = d at *
      obtain ⟨d0, d1, d2⟩ := d
      simp only at f0 f1 f2 hdp DE
      subst hadr
      obtain ⟨m, hm⟩ : ∃ m, wr.heap.size = m := ⟨_, rfl⟩
      have hMm : M < m := by have := HB.out.s; omega
      have CD := Lib.hid (declString_calls d0 d1 d2 (wr.alloc (.cells #[.string d0, .bool d1, .int .i64 d2] 88)) hdp)
      have HB1 := Lib.hid (HB.out.below ((Below.refl _ _).alloc (Nat.le_refl _) (.cells #[.string d0, .bool d1, .int .i64 d2] 88)))
      have HW1 := Lib.hid (HW.out.alloc (by omega) (.cells #[.string d0, .bool d1, .int .i64 d2] 88))
      have S1 : Hid ((wr.alloc (.cells #[.string d0, .bool d1, .int .i64 d2] 88)).heap.size = m + 1) := Lib.hid (by simp [hm])
      have LD : Hid ((declB d0 d1).length ≤ 107) := Lib.hid (by rw [DE.out, List.length_append] at hdb; omega)
      generalize declB d0 d1 = dt at *
      clear hdb hdp
      have MXm := hm
      go_wp2_with fail
      refine CD.out.mono ?_
      clear CD
      generalize World.alloc wr _ = W1 at *
      rintro e w2 ⟨rfl, hb2⟩
      have HB2 := Lib.hid (HB1.out.below hb2)
      have HW2 : Hid (Below M w w2) := Lib.hid (HW1.out.trans (hb2.mono (by rw [S1.out]; omega)))
      clear hb2 f0 f1 f2
      go_wp2_with fail
      refine (HB2.out.ws ⟨dt.toArray⟩ (by have := LA.out; omega) (by rw [size_lit]; have := LD.out; omega)).mono ?_
      rintro e w3 ⟨rfl, hb3, hk3⟩
      rw [bs_mk] at hb3
      have HB3 := Lib.hid hb3
      have HW3 : Hid (Below M w w3) := Lib.hid (HW2.out.trans hk3.bel)
      clear hb3 hk3
      go_wp2_with fail
      refine (HB3.out.wb 10 (by rw [List.length_append]; have := LA.out; have := LD.out; omega)).mono ?_
      rintro e w4 ⟨rfl, hb4, hk4⟩
      have HB4 : Hid (Bld M ((ds.take (k + 1)).flatMap deB) w4) := Lib.hid (by rw [TS.out, DE.out, ← List.append_assoc]; exact hb4)
      have HW4 : Hid (Below M w w4) := Lib.hid (HW3.out.trans hk4.bel)
      clear hb4 hk4
      go_wp2_with fail
      go_roundw
      case rel => exact ⟨k + 1, by omega, by go_num, HB4, HW4⟩
      case measure => simp [intOf]; omega
    · obtain rfl : k = nd := by omega
      have TL : Hid (ds.take k = ds) := Lib.hid (List.take_of_length_le (by rw [HND.out]; exact Nat.le_refl _))
      rw [TL.out] at HB
      have LD : Hid ((ds.flatMap deB).length ≤ 700) := Lib.hid (by
        have := flat_le (f := deB) (c := 107) ds (fun d h9 => deB_len (HDP.out d h9))
        rw [HND.out] at this; omega)
      have FP : Hid (progB ds rs = ds.flatMap deB ++ rs.flatMap ruB) := Lib.hid rfl
      generalize ds.flatMap deB = db at *
      have HB0 : Hid (Bld M (db ++ (rs.take 0).flatMap ruB) wr) := Lib.hid (by simpa using HB.out)
      have zP := (HW.out.block P hPM).trans HBX.out
      have c1 := cellAt (i := 1) zP rfl
      clear zP
      go_wp2_with fail
      clear c1
      go_loopw [27] (fun i wr => ∃ j : Nat, j ≤ nr ∧ i = .int .i64 j ∧ Hid (Bld M (db ++ (rs.take j).flatMap ruB) wr) ∧ Hid (Below M w wr)) (fun i _ => nr - (intOf i).toNat)
      case atStart => exact ⟨0, Nat.zero_le _, rfl, HB0, HW⟩
      case round =>
        obtain ⟨j, hj, rfl, HBj, HWj⟩ := hrel
        obtain ⟨Y, rfl⟩ : ∃ x, x = wr := ⟨wr, rfl⟩
        by_cases hjt : j < nr
        · have hlR : j < rs.length := by rw [HNR.out]; exact hjt
          have hro := HRO.out _ (List.getElem_mem hlR)
          have hrb := HRB.out _ (List.getElem_mem hlR)
          have TS : Hid (db ++ (rs.take (j + 1)).flatMap ruB = (db ++ (rs.take j).flatMap ruB) ++ ruB (rs[j]'hlR)) := Lib.hid (by rw [flat_take hlR, List.append_assoc])
          have LA : Hid ((db ++ (rs.take j).flatMap ruB).length ≤ 300000) := Lib.hid (by
            have := flat_le (f := ruB) (c := 22001) (rs.take j) (fun r h9 => HRB.out r (List.mem_of_mem_take h9))
            rw [List.length_take] at this
            have h8 : min j rs.length ≤ 12 := by omega
            have := Nat.mul_le_mul_left 22001 h8
            have := LD.out
            rw [List.length_append]; omega)
          rw [ruAt_get hlR] at TS hro hrb
          rcases HR.out Y (HWj.out.mono hNM) with h0 | ⟨g, hadr, hrow⟩
          · rw [h0] at hlR; simp at hlR
          obtain ⟨x0, x1, x2, x3, x4, hrv, f0, f1, f2, f3, f4⟩ := hrow j hlR
          obtain ⟨a, c, b, d, hcs, hT, hP, hcap⟩ := hrv
          simp only [List.cons.injEq, and_true] at hcs
          obtain ⟨rfl, rfl, rfl, rfl, rfl⟩ := hcs
          have DE : Hid (ruB (ruAt rs j) = ruleB (ruAt rs j).ag (ruAt rs j).pred (ruAt rs j).l (ruAt rs j).ps ++ [10]) := Lib.hid rfl
          generalize db ++ (rs.take j).flatMap ruB = acc at *
          generalize ruB (ruAt rs j) = tb at *
          generalize ruAt rs j = r at *
          obtain ⟨rp, rl, rg, rps, rat⟩ := r
          simp only at f0 f1 f2 f3 f4 hT hP hcap DE
          subst hadr
          obtain ⟨nl, hnl⟩ : ∃ n, rl.length = n := ⟨_, rfl⟩
          obtain ⟨np, hnp⟩ : ∃ n, rps.length = n := ⟨_, rfl⟩
          obtain ⟨m, hm⟩ : ∃ m, Y.heap.size = m := ⟨_, rfl⟩
          have hMm : M < m := by have := HBj.out.s; omega
          have B1 : Below Y.heap.size Y (Y.alloc (.cells #[.string rp, .slice a rl.length c, .int .i64 (rg : Nat), .slice b rps.length d, .int .i64 rat] 71)) := (Below.refl _ _).alloc (Nat.le_refl _) _
          have HW1 := Lib.hid (HWj.out.alloc (by omega) (.cells #[.string rp, .slice a rl.length c, .int .i64 (rg : Nat), .slice b rps.length d, .int .i64 rat] 71))
          have CD := Lib.hid (ruleString_calls rg hro.a5 rp a rl c b rps d rat N (Y.alloc (.cells #[.string rp, .slice a rl.length c, .int .i64 (rg : Nat), .slice b rps.length d, .int .i64 rat] 71)) (by simp; omega) (hT.on (B1.mono (by omega))) (ptrow_on hP (B1.mono (by omega))) (HS.out.on h6 HW1.out) hro.p (by have h9 : rl.length ≤ 6 := hro.l; omega) (by have h9 : rps.length ≤ 8 := hro.ps; omega))
          have HB1 := Lib.hid (HBj.out.below B1)
          have S1 : Hid ((Y.alloc (.cells #[.string rp, .slice a rl.length c, .int .i64 (rg : Nat), .slice b rps.length d, .int .i64 rat] 71)).heap.size = m + 1) := Lib.hid (by simp [hm])
          have LX : Hid ((ruleB rg rp rl rps).length ≤ 22001) := Lib.hid (by rw [DE.out, List.length_append] at hrb; omega)
          rw [hnl] at f1
          rw [hnp] at f3
          rw [hnl, hnp] at CD HB1 S1 HW1
          generalize ruleB rg rp rl rps = dt at *
          clear hro hrb hT hP hcap B1 hnl hnp
          have MXm := hm
          go_wp2_with fail
          refine CD.out.mono ?_
          clear CD
          generalize World.alloc Y _ = W1 at *
          rintro e w2 ⟨rfl, hb2⟩
          have HB2 := Lib.hid (HB1.out.below hb2)
          have HW2 : Hid (Below M w w2) := Lib.hid (HW1.out.trans (hb2.mono (by rw [S1.out]; omega)))
          clear hb2 f0 f1 f2 f3 f4
          go_wp2_with fail
          refine (HB2.out.ws ⟨dt.toArray⟩ (by have := LA.out; omega) (by rw [size_lit]; have := LX.out; omega)).mono ?_
          rintro e w3 ⟨rfl, hb3, hk3⟩
          rw [bs_mk] at hb3
          have HB3 := Lib.hid hb3
          have HW3 : Hid (Below M w w3) := Lib.hid (HW2.out.trans hk3.bel)
          clear hb3 hk3
          go_wp2_with fail
          refine (HB3.out.wb 10 (by rw [List.length_append]; have := LA.out; have := LX.out; omega)).mono ?_
          rintro e w4 ⟨rfl, hb4, hk4⟩
          have HB4 : Hid (Bld M (db ++ (rs.take (j + 1)).flatMap ruB) w4) := Lib.hid (by rw [TS.out, DE.out, ← List.append_assoc]; exact hb4)
          have HW4 : Hid (Below M w w4) := Lib.hid (HW3.out.trans hk4.bel)
          clear hb4 hk4
          go_wp2_with fail
          go_roundw
          case rel => exact ⟨j + 1, by omega, by go_num, HB4, HW4⟩
          case measure => simp [intOf]; omega
        · obtain rfl : j = nr := by omega
          have TL2 : Hid (rs.take j = rs) := Lib.hid (List.take_of_length_le (by rw [HNR.out]; exact Nat.le_refl _))
          rw [TL2.out, ← FP.out] at HBj
          go_wp2_with fail
          refine HBj.out.str.mono ?_
          rintro e w9 ⟨rfl, hb9⟩
          have BF : Hid (Below w.heap.size w w9) := Lib.hid (by rw [HM.out]; exact HWj.out.trans hb9)
          clear hb9
          go_wp2_with fail
          go_ret
          exact ⟨rfl, BF.out⟩
end Go.Proofs.YtaglbeokecbihaaDoor
