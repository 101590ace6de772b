/- Rules as they are written. Written by mksyl.py. -/
import Derived.Test.YtaglbeokecbihaaDoorSyE
import Derived.Test.YtaglbeokecbihaaDoorSyH
namespace Go.Proofs.YtaglbeokecbihaaDoor
open Go.RowKit
set_option linter.unusedVariables false
set_option linter.unusedSimpArgs false

/-- A part as it is written. -/
noncomputable def partT : Pt → ByteArray
  | .pos pred l => atomT 0 pred l
  | .neg pred l => ⟨#[110, 111, 116, 32]⟩ ++ atomT 0 pred l
  | .cmp op ta tb => cmpT op ta tb
  | .letx nm x => letT nm x
/-- The value cs is the part p; what it leads to lies before block N. -/
def PtV (N : Nat) (w : World) (p : Pt) (cs : Array Value) : Prop := match p with
  | .pos pred l => ∃ a c, cs = #[.int .i64 0, .string pred, .slice a l.length c, .int .i64 0, .int .i64 0, .string ⟨#[]⟩, .int .i64 0, .int .i64 0, .string ⟨#[]⟩, .int .i64 0, .string ⟨#[]⟩, .int .i64 0, .string ⟨#[]⟩, .int .i64 0, .int .i64 0, .slice none 0 0] ∧ TmRow N w a l ∧ pred.size ≤ 100 ∧ l.length ≤ 1000
  | .neg pred l => ∃ a c, cs = #[.int .i64 1, .string pred, .slice a l.length c, .int .i64 0, .int .i64 0, .string ⟨#[]⟩, .int .i64 0, .int .i64 0, .string ⟨#[]⟩, .int .i64 0, .string ⟨#[]⟩, .int .i64 0, .string ⟨#[]⟩, .int .i64 0, .int .i64 0, .slice none 0 0] ∧ TmRow N w a l ∧ pred.size ≤ 100 ∧ l.length ≤ 1000
  | .cmp op ta tb => cs = #[.int .i64 2, .string ⟨#[]⟩, .slice none 0 0, .int .i64 op, .int .i64 ta.kind, .string ta.text, .int .i64 ta.n, .int .i64 tb.kind, .string tb.text, .int .i64 tb.n, .string ⟨#[]⟩, .int .i64 0, .string ⟨#[]⟩, .int .i64 0, .int .i64 0, .slice none 0 0] ∧ op < 6 ∧ TmOK ta ∧ TmOK tb
  | .letx nm x => ∃ k1 k2 k3 k4 k5 k6 k7, cs = #[.int .i64 3, .string ⟨#[]⟩, .slice none 0 0, .int .i64 0, .int .i64 0, .string ⟨#[]⟩, .int .i64 0, .int .i64 0, .string ⟨#[]⟩, .int .i64 0, .string nm, .int .i64 k1, .string k2, .int .i64 k3, .int .i64 k4, .slice k5 k6 k7] ∧ XIn N w x ⟨k1, k2, k3, k4, k5, k6, k7⟩ ∧ nm.size ≤ 100 ∧ (exprB x).length ≤ 50000
theorem PtV.on {N : Nat} {w w' : World} {p : Pt} {cs : Array Value} (h : PtV N w p cs) (hb : Below N w w') : PtV N w' p cs := by
  cases p with
  | pos pred l => obtain ⟨a, c, h1, h2, h3⟩ := h; exact ⟨a, c, h1, h2.on hb, h3⟩
  | neg pred l => obtain ⟨a, c, h1, h2, h3⟩ := h; exact ⟨a, c, h1, h2.on hb, h3⟩
  | cmp op ta tb => exact h
  | letx nm x => obtain ⟨k1, k2, k3, k4, k5, k6, k7, h1, h2, h3⟩ := h; exact ⟨k1, k2, k3, k4, k5, k6, k7, h1, h2.on hb, h3⟩
theorem pt_shape {N : Nat} {w : World} {p : Pt} {v0 v1 v2 v3 v4 v5 v6 v7 v8 v9 v10 v11 v12 v13 v14 v15 : Value} (h : PtV N w p #[v0, v1, v2, v3, v4, v5, v6, v7, v8, v9, v10, v11, v12, v13, v14, v15]) : ∃ (j0 : Int) (j1 : ByteArray) (j2 : Option Addr) (l2 m2 : Nat) (j3 : Int) (j4 : Int) (j5 : ByteArray) (j6 : Int) (j7 : Int) (j8 : ByteArray) (j9 : Int) (j10 : ByteArray) (j11 : Int) (j12 : ByteArray) (j13 : Int) (j14 : Int) (j15 : Option Addr) (l15 m15 : Nat), v0 = .int .i64 j0 ∧ v1 = .string j1 ∧ v2 = .slice j2 l2 m2 ∧ v3 = .int .i64 j3 ∧ v4 = .int .i64 j4 ∧ v5 = .string j5 ∧ v6 = .int .i64 j6 ∧ v7 = .int .i64 j7 ∧ v8 = .string j8 ∧ v9 = .int .i64 j9 ∧ v10 = .string j10 ∧ v11 = .int .i64 j11 ∧ v12 = .string j12 ∧ v13 = .int .i64 j13 ∧ v14 = .int .i64 j14 ∧ v15 = .slice j15 l15 m15 := by
  cases p with
  | pos pred l =>
    obtain ⟨a, c, hcs, _⟩ := h
    have h9 := congrArg Array.toList hcs
    simp only [List.cons.injEq, and_true] at h9
    obtain ⟨rfl, rfl, rfl, rfl, rfl, rfl, rfl, rfl, rfl, rfl, rfl, rfl, rfl, rfl, rfl, rfl⟩ := h9
    exact ⟨_, _, _, _, _, _, _, _, _, _, _, _, _, _, _, _, _, _, _, _, rfl, rfl, rfl, rfl, rfl, rfl, rfl, rfl, rfl, rfl, rfl, rfl, rfl, rfl, rfl, rfl⟩
  | neg pred l =>
    obtain ⟨a, c, hcs, _⟩ := h
    have h9 := congrArg Array.toList hcs
    simp only [List.cons.injEq, and_true] at h9
    obtain ⟨rfl, rfl, rfl, rfl, rfl, rfl, rfl, rfl, rfl, rfl, rfl, rfl, rfl, rfl, rfl, rfl⟩ := h9
    exact ⟨_, _, _, _, _, _, _, _, _, _, _, _, _, _, _, _, _, _, _, _, rfl, rfl, rfl, rfl, rfl, rfl, rfl, rfl, rfl, rfl, rfl, rfl, rfl, rfl, rfl, rfl⟩
  | cmp op ta tb =>
    obtain ⟨hcs, _⟩ := h
    have h9 := congrArg Array.toList hcs
    simp only [List.cons.injEq, and_true] at h9
    obtain ⟨rfl, rfl, rfl, rfl, rfl, rfl, rfl, rfl, rfl, rfl, rfl, rfl, rfl, rfl, rfl, rfl⟩ := h9
    exact ⟨_, _, _, _, _, _, _, _, _, _, _, _, _, _, _, _, _, _, _, _, rfl, rfl, rfl, rfl, rfl, rfl, rfl, rfl, rfl, rfl, rfl, rfl, rfl, rfl, rfl, rfl⟩
  | letx nm x =>
    obtain ⟨k1, k2, k3, k4, k5, k6, k7, hcs, _⟩ := h
    have h9 := congrArg Array.toList hcs
    simp only [List.cons.injEq, and_true] at h9
    obtain ⟨rfl, rfl, rfl, rfl, rfl, rfl, rfl, rfl, rfl, rfl, rfl, rfl, rfl, rfl, rfl, rfl⟩ := h9
    exact ⟨_, _, _, _, _, _, _, _, _, _, _, _, _, _, _, _, _, _, _, _, rfl, rfl, rfl, rfl, rfl, rfl, rfl, rfl, rfl, rfl, rfl, rfl, rfl, rfl, rfl, rfl⟩
theorem partStr_calls {N : Nat} {p : Pt} {cs : Array Value} {w : World} (h : PtV N w p cs) (hN : N ≤ w.heap.size) (hs : STab w) : Calls Tryd.prog 18 #[.agg cs] w (StrRet w (partT p)) := by
  cases p with
  | pos pred l => obtain ⟨a, c, rfl, h2, h3, h4⟩ := h; exact partString_pos pred a l c N w hN h2 hs h3 h4
  | neg pred l => obtain ⟨a, c, rfl, h2, h3, h4⟩ := h; exact partString_neg pred a l c N w hN h2 hs h3 h4
  | cmp op ta tb => obtain ⟨rfl, h2, h3, h4⟩ := h; exact partString_cmp op h2 ta tb h3 h4 w hs
  | letx nm x => obtain ⟨k1, k2, k3, k4, k5, k6, k7, rfl, h2, h3, h4⟩ := h; exact partString_let nm h3 h2 hN hs (by omega)
theorem partT_size {N : Nat} {p : Pt} {cs : Array Value} {w : World} (h : PtV N w p cs) : (partT p).size ≤ 60000 := by
  cases p with
  | pos pred l => obtain ⟨a, c, _, h2, h3, h4⟩ := h; have := atom_size h2.1 (show 0 < 5 by omega) h3 h4; show (atomT 0 pred l).size ≤ _; omega
  | neg pred l =>
    obtain ⟨a, c, _, h2, h3, h4⟩ := h
    have := atom_size h2.1 (show 0 < 5 by omega) h3 h4
    show (⟨#[110, 111, 116, 32]⟩ ++ atomT 0 pred l : ByteArray).size ≤ _
    rw [ByteArray.size_append]; show 4 + _ ≤ _; omega
  | cmp op ta tb =>
    obtain ⟨_, h2, h3, h4⟩ := h
    have := termT_size h3; have := termT_size h4; have := colS_size op h2
    show (termT ta ++ ⟨#[32]⟩ ++ colS op ++ ⟨#[32]⟩ ++ termT tb).size ≤ _
    simp only [ByteArray.size_append]; show _ + 1 + _ + 1 + _ ≤ _; omega
  | letx nm x =>
    obtain ⟨k1, k2, k3, k4, k5, k6, k7, _, h2, h3, h4⟩ := h
    show (nm ++ ⟨#[32, 58, 61, 32]⟩ ++ exprT x).size ≤ _
    simp only [ByteArray.size_append, exprT_size]; show _ + 4 + _ ≤ _; omega
def ptAt (l : List Pt) (i : Nat) : Pt := l[i]?.getD (.pos ⟨#[]⟩ [])
/-- The slice at a reads as the parts l; all lies before block N. -/
def PtRow (N : Nat) (w : World) (a : Option Addr) (l : List Pt) : Prop := l = [] ∨ ∃ g, a = some ⟨g, 0, none⟩ ∧ g < N ∧ ∀ i, i < l.length → ∃ v0 v1 v2 v3 v4 v5 v6 v7 v8 v9 v10 v11 v12 v13 v14 v15, PtV N w (ptAt l i) #[v0, v1, v2, v3, v4, v5, v6, v7, v8, v9, v10, v11, v12, v13, v14, v15] ∧ w.cell? ⟨g, i * 16, none⟩ = some v0 ∧ w.cell? ⟨g, i * 16 + 1, none⟩ = some v1 ∧ w.cell? ⟨g, i * 16 + 2, none⟩ = some v2 ∧ w.cell? ⟨g, i * 16 + 3, none⟩ = some v3 ∧ w.cell? ⟨g, i * 16 + 4, none⟩ = some v4 ∧ w.cell? ⟨g, i * 16 + 5, none⟩ = some v5 ∧ w.cell? ⟨g, i * 16 + 6, none⟩ = some v6 ∧ w.cell? ⟨g, i * 16 + 7, none⟩ = some v7 ∧ w.cell? ⟨g, i * 16 + 8, none⟩ = some v8 ∧ w.cell? ⟨g, i * 16 + 9, none⟩ = some v9 ∧ w.cell? ⟨g, i * 16 + 10, none⟩ = some v10 ∧ w.cell? ⟨g, i * 16 + 11, none⟩ = some v11 ∧ w.cell? ⟨g, i * 16 + 12, none⟩ = some v12 ∧ w.cell? ⟨g, i * 16 + 13, none⟩ = some v13 ∧ w.cell? ⟨g, i * 16 + 14, none⟩ = some v14 ∧ w.cell? ⟨g, i * 16 + 15, none⟩ = some v15
theorem PtRow.at {N : Nat} {w w' : World} {a : Option Addr} {l : List Pt} (h : PtRow N w a l) (hb : Below N w w') {i : Nat} (hi : i < l.length) : ∃ g v0 v1 v2 v3 v4 v5 v6 v7 v8 v9 v10 v11 v12 v13 v14 v15, a = some ⟨g, 0, none⟩ ∧ PtV N w' (ptAt l i) #[v0, v1, v2, v3, v4, v5, v6, v7, v8, v9, v10, v11, v12, v13, v14, v15] ∧ w'.cell? ⟨g, i * 16, none⟩ = some v0 ∧ w'.cell? ⟨g, i * 16 + 1, none⟩ = some v1 ∧ w'.cell? ⟨g, i * 16 + 2, none⟩ = some v2 ∧ w'.cell? ⟨g, i * 16 + 3, none⟩ = some v3 ∧ w'.cell? ⟨g, i * 16 + 4, none⟩ = some v4 ∧ w'.cell? ⟨g, i * 16 + 5, none⟩ = some v5 ∧ w'.cell? ⟨g, i * 16 + 6, none⟩ = some v6 ∧ w'.cell? ⟨g, i * 16 + 7, none⟩ = some v7 ∧ w'.cell? ⟨g, i * 16 + 8, none⟩ = some v8 ∧ w'.cell? ⟨g, i * 16 + 9, none⟩ = some v9 ∧ w'.cell? ⟨g, i * 16 + 10, none⟩ = some v10 ∧ w'.cell? ⟨g, i * 16 + 11, none⟩ = some v11 ∧ w'.cell? ⟨g, i * 16 + 12, none⟩ = some v12 ∧ w'.cell? ⟨g, i * 16 + 13, none⟩ = some v13 ∧ w'.cell? ⟨g, i * 16 + 14, none⟩ = some v14 ∧ w'.cell? ⟨g, i * 16 + 15, none⟩ = some v15 := by
  rcases h with h0 | ⟨g, ha, hg, hc⟩
  · subst h0; simp at hi
  · obtain ⟨v0, v1, v2, v3, v4, v5, v6, v7, v8, v9, v10, v11, v12, v13, v14, v15, hp, c0, c1, c2, c3, c4, c5, c6, c7, c8, c9, c10, c11, c12, c13, c14, c15⟩ := hc i hi
    exact ⟨g, v0, v1, v2, v3, v4, v5, v6, v7, v8, v9, v10, v11, v12, v13, v14, v15, ha, hp.on hb, (hb.cell (p := ⟨g, _, none⟩) hg).trans c0, (hb.cell (p := ⟨g, _, none⟩) hg).trans c1, (hb.cell (p := ⟨g, _, none⟩) hg).trans c2, (hb.cell (p := ⟨g, _, none⟩) hg).trans c3, (hb.cell (p := ⟨g, _, none⟩) hg).trans c4, (hb.cell (p := ⟨g, _, none⟩) hg).trans c5, (hb.cell (p := ⟨g, _, none⟩) hg).trans c6, (hb.cell (p := ⟨g, _, none⟩) hg).trans c7, (hb.cell (p := ⟨g, _, none⟩) hg).trans c8, (hb.cell (p := ⟨g, _, none⟩) hg).trans c9, (hb.cell (p := ⟨g, _, none⟩) hg).trans c10, (hb.cell (p := ⟨g, _, none⟩) hg).trans c11, (hb.cell (p := ⟨g, _, none⟩) hg).trans c12, (hb.cell (p := ⟨g, _, none⟩) hg).trans c13, (hb.cell (p := ⟨g, _, none⟩) hg).trans c14, (hb.cell (p := ⟨g, _, none⟩) hg).trans c15⟩
noncomputable def outP (l : List Pt) : Nat → Bytes
  | 0 => []
  | k + 1 => outP l k ++ (if k = 0 then [32, 58, 45, 32] else [44, 32]) ++ bs (partT (ptAt l k))
noncomputable def ruleB (agg : Nat) (pred : ByteArray) (l : List Tm) (ps : List Pt) : Bytes := atomB agg pred l ++ outP ps ps.length ++ [46]
theorem withAgg_calls (ag : Nat) (h5 : ag < 5) (pred : ByteArray) (a : Option Addr) (l : List Tm) (c : Nat) (N : Nat) (w : World) (hN : N ≤ w.heap.size) (hr : TmRow N w a l) (hs : STab w) (hp : pred.size ≤ 100) (hn : l.length ≤ 1000) : Calls Tryd.prog 42 #[.agg #[.string pred, .slice a l.length c], .int .i64 ag] w (StrRet w (atomT ag pred l)) := by
  by_cases h0 : ag = 0
  · subst h0; exact atom0_calls pred a l c N w hN hr hs hp hn
  · exact agg_calls ag h0 h5 pred a l c N w hN hr hs hp hn
theorem outP_len {N : Nat} {w : World} {a : Option Addr} {l : List Pt} (h : PtRow N w a l) : ∀ k, k ≤ l.length → (outP l k).length ≤ 60010 * k
  | 0, _ => by simp [outP]
  | k + 1, hk => by
    have h1 := outP_len h k (by omega)
    obtain ⟨g, v0, v1, v2, v3, v4, v5, v6, v7, v8, v9, v10, v11, v12, v13, v14, v15, _, hp, _⟩ := h.at (Below.refl _ _) (show k < l.length by omega)
    have h2 := partT_size hp
    simp only [outP, List.length_append, bs_len]
    split <;> simp <;> omega
set_option maxRecDepth 100000 in
set_option maxHeartbeats 4000000 in
theorem ruleString_calls (ag : Nat) (h5 : ag < 5) (pred : ByteArray) (a : Option Addr) (l : List Tm) (c : Nat) (ba : Option Addr) (ps : List Pt) (bc : Nat) (at9 : Int) (N : Nat) (w : World) (hN : N ≤ w.heap.size) (hr : TmRow N w a l) (hps : PtRow N w ba ps) (hs : STab w) (hp : pred.size ≤ 100) (hn : l.length ≤ 1000) (hpl : ps.length ≤ 10) : Calls Tryd.prog 32 #[.agg #[.string pred, .slice a l.length c, .int .i64 ag, .slice ba ps.length bc, .int .i64 at9]] w (StrRet w ⟨(ruleB ag pred l ps).toArray⟩) := by
  have OL := Lib.hid (outP_len hps)
  have hz := atom_size hr.1 h5 hp hn
  obtain ⟨M, hM⟩ : ∃ M, w.heap.size = M := ⟨_, rfl⟩
  have HM := Lib.hid hM
  have h6 : 6 ≤ M := by have := hs.sz; omega
  obtain ⟨n, hnn⟩ : ∃ n, ps.length = n := ⟨_, rfl⟩
  have HN := Lib.hid hnn
  have FT : Hid ((⟨(ruleB ag pred l ps).toArray⟩ : ByteArray) = ⟨(bs (atomT ag pred l) ++ outP ps n ++ [46]).toArray⟩) := Lib.hid (by unfold ruleB atomT; rw [bs_mk, hnn])
  rw [hnn] at OL hpl ⊢
  clear hnn
  have S1 : (w.alloc (.cells #[.string pred, .slice a l.length c, .int .i64 ag, .slice ba n bc, .int .i64 at9] 71)).heap.size = M + 1 := by simp [hM]
  have D0 := Lib.hid (bld_new (w.alloc (.cells #[.string pred, .slice a l.length c, .int .i64 ag, .slice ba n bc, .int .i64 at9] 71)) S1)
  have B0 : Hid (Below M w ((w.alloc (.cells #[.string pred, .slice a l.length c, .int .i64 ag, .slice ba n bc, .int .i64 at9] 71)).alloc (.cells #[.pointer none, .slice none 0 0] 93))) := Lib.hid (by rw [← hM]; exact below2 w _ _)
  have Y0 : Hid (((w.alloc (.cells #[.string pred, .slice a l.length c, .int .i64 ag, .slice ba n bc, .int .i64 at9] 71)).alloc (.cells #[.pointer none, .slice none 0 0] 93)).heap[M]? = some (.cells #[.string pred, .slice a l.length c, .int .i64 ag, .slice ba n bc, .int .i64 at9] 71 (0, 0))) := Lib.hid (by rw [← hM]; exact (((Below.refl _ _).alloc (Nat.le_refl _) _).block _ (by simp)).trans (box5 w _ _ _ _ _ 71))
  have S0 : Hid (((w.alloc (.cells #[.string pred, .slice a l.length c, .int .i64 ag, .slice ba n bc, .int .i64 at9] 71)).alloc (.cells #[.pointer none, .slice none 0 0] 93)).heap.size = M + 2) := Lib.hid (by simp [hM])
  have CA := Lib.hid (withAgg_calls ag h5 pred a l c N ((w.alloc (.cells #[.string pred, .slice a l.length c, .int .i64 ag, .slice ba n bc, .int .i64 at9] 71)).alloc (.cells #[.pointer none, .slice none 0 0] 93)) (by rw [S0.out]; omega) (hr.on (B0.out.mono (by omega))) (hs.on h6 B0.out) hp hn)
  have HS := Lib.hid hs
  have HP := Lib.hid hps
  have OS := Lib.hid (fun k => show outP ps (k + 1) = outP ps k ++ (if k = 0 then [32, 58, 45, 32] else [44, 32]) ++ bs (partT (ptAt ps k)) from rfl)
  have OZ : Hid (outP ps 0 = []) := Lib.hid rfl
  clear hr hs hps S1 hM
  generalize outP ps = oP at *
  generalize atomT ag pred l = at0 at *
  generalize (⟨(ruleB ag pred l ps).toArray⟩ : ByteArray) = fT at *
  obtain ⟨ln, hln⟩ : ∃ ln, l.length = ln := ⟨_, rfl⟩
  rw [hln] at D0 B0 Y0 S0 CA ⊢
  clear hln
  have MX := HM.out
  go_enter Tryd.func32, Tryd.ntmps32
  go_wp2_with fail
  refine CA.out.mono ?_
  generalize World.alloc (World.alloc w _) _ = W0 at *
  rintro e w1 ⟨rfl, hb1⟩
  have D1 := Lib.hid (D0.out.below hb1)
  have B1 : Hid (Below M w w1) := Lib.hid (B0.out.trans (hb1.mono (by rw [S0.out]; omega)))
  have Y1 := Lib.hid ((hb1.block M (by rw [S0.out]; omega)).trans Y0.out)
  clear hb1 CA
  go_wp2_with fail
  refine (D1.out.ws at0 (by simp) (by omega)).mono ?_
  rintro e w2 ⟨rfl, hb2, hk2⟩
  rw [List.nil_append] at hb2
  have B2 : Hid (Below M w w2) := Lib.hid (B1.out.trans (hk2.bel.mono (by omega)))
  have z2 := (hk2.bel.block M (by omega)).trans Y1.out
  have D2 : Hid (Bld (M + 1) (bs at0 ++ oP 0) w2) := Lib.hid (by rw [OZ.out, List.append_nil]; exact hb2)
  obtain ⟨p0, p1, p2, p3, p4⟩ := cells5 z2
  clear hb2 hk2 z2
  have hal : (bs at0).length ≤ 51000 := by rw [bs_len]; exact hz
  go_wp2_with fail
  clear p0 p1 p2 p3 p4
  go_loopw [15] (fun i wr => ∃ k : Nat, k ≤ n ∧ i = .int .i64 k ∧ Hid (Bld (M + 1) (bs at0 ++ oP k) wr) ∧ Hid (Below (M + 1) w2 wr)) (fun i _ => n - (intOf i).toNat)
  case atStart => exact ⟨0, Nat.zero_le _, rfl, D2, Lib.hid (Below.refl _ _)⟩
  case round =>
    obtain ⟨k, hk, rfl, HD, HBe⟩ := hrel
    have BW : Hid (Below M w wr) := Lib.hid (B2.out.trans (HBe.out.mono (by omega)))
    have hol := OL.out k hk
    have hml : (bs at0 ++ oP k).length ≤ 700000 := by rw [List.length_append]; omega
    have SW : Hid (M + 1 < wr.heap.size) := Lib.hid HD.out.s
    by_cases hlt : k < n
    · have hlT : k < ps.length := by rw [HN.out]; exact hlt
      obtain ⟨g, v0, v1, v2, v3, v4, v5, v6, v7, v8, v9, v10, v11, v12, v13, v14, v15, hadr, hpv, f0, f1, f2, f3, f4, f5, f6, f7, f8, f9, f10, f11, f12, f13, f14, f15⟩ := HP.out.at (BW.out.mono (by rw [← HM.out]; exact hN)) hlT
      have OSk := Lib.hid (OS.out k)
      have hpt := partT_size hpv
      obtain ⟨j0, j1, j2, l2, m2, j3, j4, j5, j6, j7, j8, j9, j10, j11, j12, j13, j14, j15, l15, m15, rfl, rfl, rfl, rfl, rfl, rfl, rfl, rfl, rfl, rfl, rfl, rfl, rfl, rfl, rfl, rfl⟩ := pt_shape hpv
      have HV := Lib.hid hpv
      clear hpv
      generalize ptAt ps k = pt at *
      generalize htt : partT pt = tt at *
      have TTE := Lib.hid htt
      subst hadr
      clear htt hol
      obtain ⟨m, hm⟩ : ∃ m, wr.heap.size = m := ⟨_, rfl⟩
      have Hm := Lib.hid hm
      have K1 : Hid (Kp (M + 1) wr (wr.alloc (.cells #[.int .i64 j0, .string j1, .slice j2 l2 m2, .int .i64 j3, .int .i64 j4, .string j5, .int .i64 j6, .int .i64 j7, .string j8, .int .i64 j9, .string j10, .int .i64 j11, .string j12, .int .i64 j13, .int .i64 j14, .slice j15 l15 m15] 59))) := Lib.hid (Kp.of (Nat.le_of_lt SW.out) ((Below.refl _ _).alloc (Nat.le_refl _) _))
      have D3 := Lib.hid (HD.out.below ((Below.refl _ _).alloc (Nat.le_refl _) (.cells #[.int .i64 j0, .string j1, .slice j2 l2 m2, .int .i64 j3, .int .i64 j4, .string j5, .int .i64 j6, .int .i64 j7, .string j8, .int .i64 j9, .string j10, .int .i64 j11, .string j12, .int .i64 j13, .int .i64 j14, .slice j15 l15 m15] 59)))
      have Y3 := Lib.hid (box16 wr #[.int .i64 j0, .string j1, .slice j2 l2 m2, .int .i64 j3, .int .i64 j4, .string j5, .int .i64 j6, .int .i64 j7, .string j8, .int .i64 j9, .string j10, .int .i64 j11, .string j12, .int .i64 j13, .int .i64 j14, .slice j15 l15 m15] 59)
      rw [hm] at Y3 SW
      have smB : Hid (M + 1 < m) := SW
      clear hm
      by_cases hk0 : k = 0
      · have t1 : ((k : Int) == 0) = true := by rw [hk0]; rfl
        have t2 : (k == 0) = true := by rw [hk0]; rfl
        have ES : Hid (bs at0 ++ oP k ++ [32, 58, 45, 32] ++ bs tt = bs at0 ++ oP (k + 1)) := Lib.hid (by rw [OSk.out, if_pos hk0]; simp)
        generalize bs at0 ++ oP k = acc at *
        clear hk0
        have MXm := Hm.out
        have hsm := smB.out
        go_wp2_with fail
        have cws := D3.out.ws ⟨#[32, 58, 45, 32]⟩ (by omega) (by show 4 ≤ _; omega)
        refine cws.mono ?_
        generalize World.alloc wr _ = W3 at *
        rintro e w4 ⟨rfl, hb4, hk4⟩
        rw [show bs ⟨#[32, 58, 45, 32]⟩ = [32, 58, 45, 32] from rfl] at hb4
        have K4 : Hid (Kp (M + 1) wr w4) := Lib.hid (K1.out.trans hk4)
        have D4 := Lib.hid hb4
        have z4 := hk4.box Y3.out (by omega) (by decide)
        have q0 := cellAt (i := 0) z4 rfl
        have q1 := cellAt (i := 1) z4 rfl
        have q2 := cellAt (i := 2) z4 rfl
        have q3 := cellAt (i := 3) z4 rfl
        have q4 := cellAt (i := 4) z4 rfl
        have q5 := cellAt (i := 5) z4 rfl
        have q6 := cellAt (i := 6) z4 rfl
        have q7 := cellAt (i := 7) z4 rfl
        have q8 := cellAt (i := 8) z4 rfl
        have q9 := cellAt (i := 9) z4 rfl
        have q10 := cellAt (i := 10) z4 rfl
        have q11 := cellAt (i := 11) z4 rfl
        have q12 := cellAt (i := 12) z4 rfl
        have q13 := cellAt (i := 13) z4 rfl
        have q14 := cellAt (i := 14) z4 rfl
        have q15 := cellAt (i := 15) z4 rfl
        clear hb4 hk4 z4 cws f0 f1 f2 f3 f4 f5 f6 f7 f8 f9 f10 f11 f12 f13 f14 f15
        have T4 : Hid (STab w4) := Lib.hid (HS.out.on h6 (BW.out.trans (K4.out.bel.mono (by omega))))
        have CP := Lib.hid (partStr_calls (HV.out.on (K4.out.bel.mono (by rw [← HM.out] at *; omega))) (by have := K4.out.bel.size; have := HM.out; omega) T4.out)
        rw [TTE.out] at CP
        go_wp2_with fail
        refine CP.out.mono ?_
        rintro e w5 ⟨rfl, hb5⟩
        have D5 := Lib.hid (D4.out.below hb5)
        have K5 : Hid (Kp (M + 1) wr w5) := Lib.hid (K4.out.add (by have := D4.out.s; omega) hb5)
        clear hb5 q0 q1 q2 q3 q4 q5 q6 q7 q8 q9 q10 q11 q12 q13 q14 q15
        go_wp2_with fail
        refine (D5.out.ws tt (by rw [List.length_append]; show acc.length + 4 ≤ _; omega) (by omega)).mono ?_
        rintro e w6 ⟨rfl, hb6, hk6⟩
        rw [ES.out] at hb6
        have D6 := Lib.hid hb6
        have B6 : Hid (Below (M + 1) w2 w6) := Lib.hid (HBe.out.trans (K5.out.trans hk6).bel)
        clear hb6 hk6
        go_wp2_with fail
        go_roundw
        case rel => exact ⟨k + 1, by omega, by go_num, D6, B6⟩
        case measure => simp [intOf]; omega
      · have t1 : ((k : Int) == 0) = false := beq_eq_false_iff_ne.2 (by omega)
        have t2 : (k == 0) = false := beq_eq_false_iff_ne.2 hk0
        have ES : Hid (bs at0 ++ oP k ++ [44, 32] ++ bs tt = bs at0 ++ oP (k + 1)) := Lib.hid (by rw [OSk.out, if_neg hk0]; simp)
        generalize bs at0 ++ oP k = acc at *
        clear hk0
        have MXm := Hm.out
        have hsm := smB.out
        go_wp2_with fail
        have cws := D3.out.ws ⟨#[44, 32]⟩ (by omega) (by show 2 ≤ _; omega)
        refine cws.mono ?_
        generalize World.alloc wr _ = W3 at *
        rintro e w4 ⟨rfl, hb4, hk4⟩
        rw [show bs ⟨#[44, 32]⟩ = [44, 32] from rfl] at hb4
        have K4 : Hid (Kp (M + 1) wr w4) := Lib.hid (K1.out.trans hk4)
        have D4 := Lib.hid hb4
        have z4 := hk4.box Y3.out (by omega) (by decide)
        have q0 := cellAt (i := 0) z4 rfl
        have q1 := cellAt (i := 1) z4 rfl
        have q2 := cellAt (i := 2) z4 rfl
        have q3 := cellAt (i := 3) z4 rfl
        have q4 := cellAt (i := 4) z4 rfl
        have q5 := cellAt (i := 5) z4 rfl
        have q6 := cellAt (i := 6) z4 rfl
        have q7 := cellAt (i := 7) z4 rfl
        have q8 := cellAt (i := 8) z4 rfl
        have q9 := cellAt (i := 9) z4 rfl
        have q10 := cellAt (i := 10) z4 rfl
        have q11 := cellAt (i := 11) z4 rfl
        have q12 := cellAt (i := 12) z4 rfl
        have q13 := cellAt (i := 13) z4 rfl
        have q14 := cellAt (i := 14) z4 rfl
        have q15 := cellAt (i := 15) z4 rfl
        clear hb4 hk4 z4 cws f0 f1 f2 f3 f4 f5 f6 f7 f8 f9 f10 f11 f12 f13 f14 f15
        have T4 : Hid (STab w4) := Lib.hid (HS.out.on h6 (BW.out.trans (K4.out.bel.mono (by omega))))
        have CP := Lib.hid (partStr_calls (HV.out.on (K4.out.bel.mono (by rw [← HM.out] at *; omega))) (by have := K4.out.bel.size; have := HM.out; omega) T4.out)
        rw [TTE.out] at CP
        go_wp2_with fail
        refine CP.out.mono ?_
        rintro e w5 ⟨rfl, hb5⟩
        have D5 := Lib.hid (D4.out.below hb5)
        have K5 : Hid (Kp (M + 1) wr w5) := Lib.hid (K4.out.add (by have := D4.out.s; omega) hb5)
        clear hb5 q0 q1 q2 q3 q4 q5 q6 q7 q8 q9 q10 q11 q12 q13 q14 q15
        go_wp2_with fail
        refine (D5.out.ws tt (by rw [List.length_append]; show acc.length + 2 ≤ _; omega) (by omega)).mono ?_
        rintro e w6 ⟨rfl, hb6, hk6⟩
        rw [ES.out] at hb6
        have D6 := Lib.hid hb6
        have B6 : Hid (Below (M + 1) w2 w6) := Lib.hid (HBe.out.trans (K5.out.trans hk6).bel)
        clear hb6 hk6
        go_wp2_with fail
        go_roundw
        case rel => exact ⟨k + 1, by omega, by go_num, D6, B6⟩
        case measure => simp [intOf]; omega
    · obtain rfl : k = n := by omega
      have cb := HD.out.wb 46 (by omega)
      go_wp2_with fail
      refine cb.mono ?_
      rintro e w3 ⟨rfl, hb3, hk3⟩
      have B3 : Hid (Below M w w3) := Lib.hid (BW.out.trans (hk3.bel.mono (by omega)))
      have cs := hb3.str
      clear hb3 hk3 cb
      go_wp2_with fail
      refine cs.mono ?_
      rintro e w4 ⟨rfl, hb4⟩
      have B4 : Hid (Below M w w4) := Lib.hid (B3.out.trans (hb4.mono (by omega)))
      clear hb4 cs
      go_wp2_with fail
      go_ret
      exact ⟨ret_s (by rw [FT.out]; simp), by rw [HM.out]; exact B4.out⟩
end Go.Proofs.YtaglbeokecbihaaDoor
