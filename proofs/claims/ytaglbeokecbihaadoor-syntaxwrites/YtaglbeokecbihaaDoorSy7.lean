/- Atoms as they are written. Written by mksy7.py. -/
import Derived.Test.YtaglbeokecbihaaDoorSy6
namespace Go.Proofs.YtaglbeokecbihaaDoor
open Go.RowKit
set_option linter.unusedVariables false
set_option linter.unusedSimpArgs false

def zeroTm : Tm := ⟨0, ⟨#[]⟩, 0⟩
def tmAt (l : List Tm) (i : Nat) : Tm := l[i]?.getD zeroTm
theorem tmAt_mem {l : List Tm} {i : Nat} (h : i < l.length) : tmAt l i ∈ l := by simp only [tmAt, List.getElem?_eq_getElem h, Option.getD_some]; exact List.getElem_mem h
/-- The slice at a reads as the terms l; it lies in a block before N. -/
def TmRow (N : Nat) (w : World) (a : Option Addr) (l : List Tm) : Prop :=
  (∀ t ∈ l, TmOK t) ∧ (l = [] ∨ ∃ g, a = some ⟨g, 0, none⟩ ∧ g < N ∧ ∀ i, i < l.length → w.cell? ⟨g, i * 3, none⟩ = some (.int .i64 (tmAt l i).kind) ∧ w.cell? ⟨g, i * 3 + 1, none⟩ = some (.string (tmAt l i).text) ∧ w.cell? ⟨g, i * 3 + 2, none⟩ = some (.int .i64 (tmAt l i).n))
theorem TmRow.on {N : Nat} {w w' : World} {a : Option Addr} {l : List Tm} (h : TmRow N w a l) (hb : Below N w w') : TmRow N w' a l := by
  refine ⟨h.1, ?_⟩
  rcases h.2 with h0 | ⟨g, ha, hg, hc⟩
  · exact .inl h0
  · exact .inr ⟨g, ha, hg, fun i hi => ⟨(hb.cell (p := ⟨g, i * 3, none⟩) hg).trans (hc i hi).1, (hb.cell (p := ⟨g, i * 3 + 1, none⟩) hg).trans (hc i hi).2.1, (hb.cell (p := ⟨g, i * 3 + 2, none⟩) hg).trans (hc i hi).2.2⟩⟩
theorem TmRow.mono {N M : Nat} {w : World} {a : Option Addr} {l : List Tm} (h : TmRow N w a l) (hM : N ≤ M) : TmRow M w a l := by
  refine ⟨h.1, ?_⟩
  rcases h.2 with h0 | ⟨g, ha, hg, hc⟩
  · exact .inl h0
  · exact .inr ⟨g, ha, Nat.lt_of_lt_of_le hg hM, hc⟩
theorem TmRow.at {N : Nat} {w : World} {a : Option Addr} {l : List Tm} (h : TmRow N w a l) {i : Nat} (hi : i < l.length) : ∃ g, a = some ⟨g, 0, none⟩ ∧ g < N ∧ w.cell? ⟨g, i * 3, none⟩ = some (.int .i64 (tmAt l i).kind) ∧ w.cell? ⟨g, i * 3 + 1, none⟩ = some (.string (tmAt l i).text) ∧ w.cell? ⟨g, i * 3 + 2, none⟩ = some (.int .i64 (tmAt l i).n) := by
  rcases h.2 with h0 | ⟨g, ha, hg, hc⟩
  · subst h0; simp at hi
  · exact ⟨g, ha, hg, hc i hi⟩
/-- An argument's text: the last one may be aggregated. -/
noncomputable def itemT (agg n k : Nat) (t : Tm) : ByteArray := if agg ≠ 0 ∧ k + 1 = n then wrdS agg ++ ⟨#[60]⟩ ++ termT t ++ ⟨#[62]⟩ else termT t
noncomputable def outA (agg : Nat) (l : List Tm) : Nat → Bytes
  | 0 => []
  | k + 1 => outA agg l k ++ (if k = 0 then [] else [44]) ++ bs (itemT agg l.length k (tmAt l k))
noncomputable def atomB (agg : Nat) (pred : ByteArray) (l : List Tm) : Bytes := bs pred ++ [40] ++ outA agg l l.length ++ [41]
noncomputable def atomT (agg : Nat) (pred : ByteArray) (l : List Tm) : ByteArray := ⟨(atomB agg pred l).toArray⟩
theorem wrdS_size : ∀ i, i < 5 → (wrdS i).size ≤ 5 := by decide
theorem item_size {agg n k : Nat} {t : Tm} (h : TmOK t) (hg : agg < 5) : (itemT agg n k t).size ≤ 49 := by
  have h1 := termT_size h
  have h2 := wrdS_size agg hg
  unfold itemT
  split
  · rw [ByteArray.size_append, ByteArray.size_append, ByteArray.size_append]; show _ + 1 + _ + 1 ≤ _; omega
  · omega
theorem outA_len {agg : Nat} {l : List Tm} (hl : ∀ t ∈ l, TmOK t) (hg : agg < 5) : ∀ k, k ≤ l.length → (outA agg l k).length ≤ 50 * k
  | 0, _ => by simp [outA]
  | k + 1, hk => by
    have h1 := outA_len hl hg k (by omega)
    have h2 := item_size (agg := agg) (n := l.length) (k := k) (hl _ (tmAt_mem (show k < l.length by omega))) hg
    simp only [outA, List.length_append, bs_len]
    split <;> simp <;> omega
theorem cells2 {w : World} {g : Nat} {a b : Value} {T : TypeId} (h : w.heap[g]? = some (.cells #[a, b] T (0, 0))) : w.cell? ⟨g, 0, none⟩ = some a ∧ w.cell? ⟨g, 1, none⟩ = some b :=
  ⟨by simp [World.cell?, h], by simp [World.cell?, h]⟩
theorem box2 (w : World) (a b : Value) (T : TypeId) : (w.alloc (.cells #[a, b] T)).heap[w.heap.size]? = some (.cells #[a, b] T (0, 0)) := heap_alloc_new _ _
theorem box3 (w : World) (a b c : Value) (T : TypeId) : (w.alloc (.cells #[a, b, c] T)).heap[w.heap.size]? = some (.cells #[a, b, c] T (0, 0)) := heap_alloc_new _ _
set_option maxRecDepth 100000 in
set_option maxHeartbeats 4000000 in
theorem atom0_calls (pred : ByteArray) (a : Option Addr) (l : List Tm) (c : Nat) (N : Nat) (w : World) (hN : N ≤ w.heap.size) (hr : TmRow N w a l) (hs : STab w) (hp : pred.size ≤ 100) (hn : l.length ≤ 1000) : Calls Tryd.prog 42 #[.agg #[.string pred, .slice a l.length c], .int .i64 0] w (StrRet w (atomT 0 pred l)) := by
  have OL := Lib.hid (fun k hk => outA_len (agg := 0) hr.1 (by omega) k hk)
  have IT := Lib.hid (fun k (hk : k < l.length) => item_size (agg := 0) (n := l.length) (k := k) (hr.1 _ (tmAt_mem hk)) (by omega))
  obtain ⟨M, hM⟩ : ∃ M, w.heap.size = M := ⟨_, rfl⟩
  have HM := Lib.hid hM
  have h6 : 6 ≤ M := by have := hs.sz; omega
  have S1 : (w.alloc (.cells #[.string pred, .slice a l.length c] 49)).heap.size = M + 1 := by simp [hM]
  have D0 := Lib.hid (bld_new (w.alloc (.cells #[.string pred, .slice a l.length c] 49)) S1)
  have B0 : Hid (Below M w ((w.alloc (.cells #[.string pred, .slice a l.length c] 49)).alloc (.cells #[.pointer none, .slice none 0 0] 93))) := Lib.hid (by rw [← hM]; exact below2 w _ _)
  have Y0 : Hid (((w.alloc (.cells #[.string pred, .slice a l.length c] 49)).alloc (.cells #[.pointer none, .slice none 0 0] 93)).heap[M]? = some (.cells #[.string pred, .slice a l.length c] 49 (0, 0))) := Lib.hid (by rw [← hM]; exact (((Below.refl _ _).alloc (Nat.le_refl _) _).block _ (by simp)).trans (box2 w _ _ 49))
  have HR := Lib.hid hr
  have HS := Lib.hid hs
  have FT : Hid (atomT 0 pred l = ⟨(bs pred ++ [40] ++ outA 0 l l.length ++ [41]).toArray⟩) := Lib.hid rfl
  have OS := Lib.hid (fun k => show outA 0 l (k + 1) = outA 0 l k ++ (if k = 0 then [] else [44]) ++ bs (itemT 0 l.length k (tmAt l k)) from rfl)
  have OZ : Hid (outA 0 l 0 = []) := Lib.hid rfl
  have hpl : (bs pred).length ≤ 100 := by rw [bs_len]; exact hp
  clear hr hs S1 hM
  obtain ⟨n, hnn⟩ : ∃ n, l.length = n := ⟨_, rfl⟩
  have HN := Lib.hid hnn
  rw [hnn] at OL IT Y0 FT OS hn D0 B0 ⊢
  clear hnn
  generalize outA 0 l = oA at *
  generalize atomT 0 pred l = fT at *
  have MX := HM.out
  go_enter Tryd.func42, Tryd.ntmps42
  go_wp2_with fail
  refine (D0.out.ws pred (by simp) (by omega)).mono ?_
  generalize World.alloc (World.alloc w _) _ = W0 at *
  rintro e w1 ⟨rfl, hb1, hk1⟩
  rw [List.nil_append] at hb1
  have c1 := hb1.wb 40 (by omega)
  have B1 : Hid (Below M w w1) := Lib.hid (B0.out.trans (hk1.bel.mono (by omega)))
  have z1 := (hk1.bel.block M (by omega)).trans Y0.out
  obtain ⟨p0, p1⟩ := cells2 z1
  have Y1 := Lib.hid z1
  clear hb1 hk1 z1
  go_wp2_with fail
  refine c1.mono ?_
  rintro e w2 ⟨rfl, hb2, hk2⟩
  have B2 : Hid (Below M w w2) := Lib.hid (B1.out.trans (hk2.bel.mono (by omega)))
  have z2 := (hk2.bel.block M (by omega)).trans Y1.out
  have Y2 := Lib.hid z2
  have D2 : Hid (Bld (M + 1) (bs pred ++ [40] ++ oA 0) w2) := Lib.hid (by rw [OZ.out, List.append_nil]; exact hb2)
  clear p0 p1 hb2 hk2 c1
  obtain ⟨p0, p1⟩ := cells2 z2
  clear z2
  go_wp2_with fail
  clear p0 p1
  go_loopw [15] (fun i wr => ∃ k : Nat, k ≤ n ∧ i = .int .i64 k ∧ Hid (Bld (M + 1) (bs pred ++ [40] ++ oA k) wr) ∧ Hid (Below (M + 1) w2 wr)) (fun i _ => n - (intOf i).toNat)
  case atStart => exact ⟨0, Nat.zero_le _, rfl, D2, Lib.hid (Below.refl _ _)⟩
  case round =>
    obtain ⟨k, hk, rfl, HD, HBe⟩ := hrel
    have BW : Hid (Below M w wr) := Lib.hid (B2.out.trans (HBe.out.mono (by omega)))
    have zr := (HBe.out.block M (by omega)).trans Y2.out
    obtain ⟨p0, p1⟩ := cells2 zr
    have YR := Lib.hid zr
    have hol := OL.out k hk
    have hml : (bs pred ++ [40] ++ oA k).length ≤ 50200 := by simp only [List.length_append, List.length_cons, List.length_nil]; omega
    have SW : Hid (M + 1 < wr.heap.size) := Lib.hid HD.out.s
    clear zr
    by_cases hlt : k < n
    · have hlT : k < l.length := by rw [HN.out]; exact hlt
      obtain ⟨g, hadr, hg, f0, f1, f2⟩ := (HR.out.on (BW.out.mono (by rw [← HM.out]; exact hN))).at hlT
      have OSk := Lib.hid (OS.out k)
      have hit := IT.out k hlt
      have hok := HR.out.1 _ (tmAt_mem hlT)
      have CT : Hid (∀ W, STab W → Calls Tryd.prog 12 #[.agg #[.int .i64 (tmAt l k).kind, .string (tmAt l k).text, .int .i64 (tmAt l k).n]] W (StrRet W (termT (tmAt l k)))) := Lib.hid (fun W h => termString_calls _ hok W h)
      have hts := termT_size hok
      generalize tmAt l k = t at *
      subst hadr
      have IE : Hid (itemT 0 n k t = if 0 ≠ 0 ∧ k + 1 = n then wrdS 0 ++ ⟨#[60]⟩ ++ termT t ++ ⟨#[62]⟩ else termT t) := Lib.hid rfl
      generalize itemT 0 n k t = it at *
      generalize termT t = tt at *
      generalize t.kind = x1 at *
      generalize t.text = x2 at *
      generalize t.n = x3 at *
      clear hok hol
      obtain ⟨m, hm⟩ : ∃ m, wr.heap.size = m := ⟨_, rfl⟩
      have Hm := Lib.hid hm
      have K1 : Hid (Kp (M + 1) wr (wr.alloc (.cells #[.int .i64 x1, .string x2, .int .i64 x3] 44))) := Lib.hid (Kp.of (Nat.le_of_lt SW.out) ((Below.refl _ _).alloc (Nat.le_refl _) _))
      have D3 := Lib.hid (HD.out.below ((Below.refl _ _).alloc (Nat.le_refl _) (.cells #[.int .i64 x1, .string x2, .int .i64 x3] 44)))
      have Y3 := Lib.hid (box3 wr (.int .i64 x1) (.string x2) (.int .i64 x3) 44)
      rw [hm] at Y3 SW
      have smB : Hid (M + 1 < m) := SW
      clear hm
      by_cases hk0 : k = 0
      · have t1 : decide ((0 : Int) < (k : Int)) = false := decide_eq_false (by omega)
        have t2 : decide (0 < k) = false := decide_eq_false (by omega)
        have ES : Hid (bs pred ++ [40] ++ oA k ++ bs tt = bs pred ++ [40] ++ oA (k + 1)) := Lib.hid (by rw [OSk.out, if_pos hk0, IE.out, if_neg (by simp)]; simp)
        generalize bs pred ++ [40] ++ oA k = acc at *
        clear hk0
        obtain ⟨q0, q1, q2, _⟩ := cells3 Y3.out
        have MXm := Hm.out
        have hsm := smB.out
        have T3 : Hid (STab (wr.alloc (.cells #[.int .i64 x1, .string x2, .int .i64 x3] 44))) := Lib.hid (HS.out.on h6 (BW.out.trans (K1.out.bel.mono (by omega))))
        go_wp2_with fail
        refine (CT.out _ T3.out).mono ?_
        generalize World.alloc wr _ = W3 at *
        rintro e w5 ⟨rfl, hb5⟩
        have D5 := Lib.hid (D3.out.below hb5)
        have K5 : Hid (Kp (M + 1) wr w5) := Lib.hid (K1.out.add (by have := D3.out.s; omega) hb5)
        clear hb5 p0 p1 q0 q1 q2 f0 f1 f2
        go_wp2_with fail
        refine (D5.out.ws tt (by omega) (by omega)).mono ?_
        rintro e w6 ⟨rfl, hb6, hk6⟩
        rw [ES.out] at hb6
        have D6 := Lib.hid hb6
        have B6 : Hid (Below (M + 1) w2 w6) := Lib.hid (HBe.out.trans (K5.out.trans hk6).bel)
        clear hb6 hk6
        go_wp2_with fail
        go_roundw
        case rel => exact ⟨k + 1, by omega, by go_num, D6, B6⟩
        case measure => simp [intOf]; omega
      · have t1 : decide ((0 : Int) < (k : Int)) = true := decide_eq_true (by omega)
        have t2 : decide (0 < k) = true := decide_eq_true (by omega)
        have ES : Hid (bs pred ++ [40] ++ oA k ++ [44] ++ bs tt = bs pred ++ [40] ++ oA (k + 1)) := Lib.hid (by rw [OSk.out, if_neg hk0, IE.out, if_neg (by simp)]; simp)
        generalize bs pred ++ [40] ++ oA k = acc at *
        clear hk0
        have MXm := Hm.out
        have hsm := smB.out
        go_wp2_with fail
        refine (D3.out.wb 44 (by omega)).mono ?_
        generalize World.alloc wr _ = W3 at *
        rintro e w4 ⟨rfl, hb4, hk4⟩
        have K4 : Hid (Kp (M + 1) wr w4) := Lib.hid (K1.out.trans hk4)
        have D4 := Lib.hid hb4
        have z4 := hk4.box Y3.out (by omega) (by decide)
        obtain ⟨q0, q1, q2, _⟩ := cells3 z4
        have z5 := (K4.out.bel.block M (by omega)).trans YR.out
        clear p0 p1 f0 f1 f2 hb4 hk4 z4
        obtain ⟨p0, p1⟩ := cells2 z5
        clear z5
        have T4 : Hid (STab w4) := Lib.hid (HS.out.on h6 (BW.out.trans (K4.out.bel.mono (by omega))))
        go_wp2_with fail
        refine (CT.out _ T4.out).mono ?_
        rintro e w5 ⟨rfl, hb5⟩
        have D5 := Lib.hid (D4.out.below hb5)
        have K5 : Hid (Kp (M + 1) wr w5) := Lib.hid (K4.out.add (by have := D4.out.s; omega) hb5)
        clear hb5 p0 p1 q0 q1 q2
        go_wp2_with fail
        refine (D5.out.ws tt (by rw [List.length_append]; show acc.length + 1 ≤ _; omega) (by omega)).mono ?_
        rintro e w6 ⟨rfl, hb6, hk6⟩
        rw [ES.out] at hb6
        have D6 := Lib.hid hb6
        have B6 : Hid (Below (M + 1) w2 w6) := Lib.hid (HBe.out.trans (K5.out.trans hk6).bel)
        clear hb6 hk6
        go_wp2_with fail
        go_roundw
        case rel => exact ⟨k + 1, by omega, by go_num, D6, B6⟩
        case measure => simp [intOf]; omega
    · obtain rfl : k = n := by omega
      have cb := HD.out.wb 41 (by omega)
      clear p0 p1
      go_wp2_with fail
      refine cb.mono ?_
      rintro e w3 ⟨rfl, hb3, hk3⟩
      have B3 : Hid (Below M w w3) := Lib.hid (BW.out.trans (hk3.bel.mono (by omega)))
      have cs := hb3.str
      clear hb3 hk3 cb
      go_wp2_with fail
      refine cs.mono ?_
      rintro e w4 ⟨rfl, hb4⟩
      have B4 : Hid (Below M w w4) := Lib.hid (B3.out.trans (hb4.mono (by omega)))
      clear hb4 cs
      go_wp2_with fail
      go_ret
      exact ⟨ret_s (by rw [FT.out]; simp), by rw [HM.out]; exact B4.out⟩
set_option maxRecDepth 100000 in
set_option maxHeartbeats 1000000 in
theorem atomString_calls (pred : ByteArray) (a : Option Addr) (l : List Tm) (c : Nat) (N : Nat) (w : World) (hN : N ≤ w.heap.size) (hr : TmRow N w a l) (hs : STab w) (hp : pred.size ≤ 100) (hn : l.length ≤ 1000) : Calls Tryd.prog 15 #[.agg #[.string pred, .slice a l.length c]] w (StrRet w (atomT 0 pred l)) := by
  have B1 := Lib.hid ((Below.refl w.heap.size w).alloc (Nat.le_refl _) (.cells #[.string pred, .slice a l.length c] 49))
  have S1 : Hid (w.heap.size ≤ (w.alloc (.cells #[.string pred, .slice a l.length c] 49)).heap.size) := Lib.hid (by simp)
  have ca := Lib.hid (atom0_calls pred a l c N (w.alloc (.cells #[.string pred, .slice a l.length c] 49)) (Nat.le_trans hN S1.out) (hr.on (B1.out.mono hN)) (hs.below B1.out) hp hn)
  clear hr hs
  generalize atomT 0 pred l = r at *
  generalize l.length = n at *
  go_enter Tryd.func15, Tryd.ntmps15
  go_wp2_with fail
  refine ca.out.mono ?_
  generalize World.alloc w _ = W0 at *
  rintro e w1 ⟨rfl, hb1⟩
  have B2 : Hid (Below w.heap.size w w1) := Lib.hid (B1.out.trans (hb1.mono S1.out))
  clear hb1 ca
  go_wp2_with fail
  go_ret
  exact ⟨rfl, B2.out⟩
set_option maxRecDepth 100000 in
set_option maxHeartbeats 2000000 in
theorem lawAtom_calls (pred : ByteArray) (a : Option Addr) (l : List Tm) (c : Nat) (N : Nat) (w : World) (hN : N ≤ w.heap.size) (hr : TmRow N w a l) (hs : STab w) (hp : pred.size ≤ 100) (hn : l.length ≤ 1000) : Calls Tryd.prog 16 #[.agg #[.string pred, .slice a l.length c]] w (StrRet w (atomT 0 pred l)) := by
  have OL := Lib.hid (fun k hk => outA_len (agg := 0) hr.1 (by omega) k hk)
  obtain ⟨M, hM⟩ : ∃ M, w.heap.size = M := ⟨_, rfl⟩
  have HM := Lib.hid hM
  have h6 : 6 ≤ M := by have := hs.sz; omega
  have B0 : Hid (Below M w (w.alloc (.cells #[.string pred, .slice a l.length c] 49))) := Lib.hid ((Below.refl M w).alloc (by omega) _)
  have SZ : Hid ((w.alloc (.cells #[.string pred, .slice a l.length c] 49)).heap.size = M + 1) := Lib.hid (by simp [hM])
  have HR := Lib.hid hr
  have HS := Lib.hid hs
  have FT : Hid (atomT 0 pred l = ⟨(bs pred ++ [40] ++ outA 0 l l.length).toArray⟩ ++ ⟨#[41]⟩) := Lib.hid (by apply ByteArray.ext; simp [atomT, atomB])
  have S0 : Hid (pred ++ ⟨#[40]⟩ = ⟨(bs pred ++ [40] ++ outA 0 l 0).toArray⟩) := Lib.hid (by rw [show outA 0 l 0 = [] from rfl, List.append_nil, ← app_bytes, bs_back])
  have OS := Lib.hid (fun k => show outA 0 l (k + 1) = outA 0 l k ++ (if k = 0 then [] else [44]) ++ bs (itemT 0 l.length k (tmAt l k)) from rfl)
  have hpl : (bs pred).length ≤ 100 := by rw [bs_len]; exact hp
  clear hr hs hM
  obtain ⟨n, hnn⟩ : ∃ n, l.length = n := ⟨_, rfl⟩
  have HN := Lib.hid hnn
  rw [hnn] at OL FT OS hn B0 SZ ⊢
  clear hnn
  generalize outA 0 l = oA at *
  generalize atomT 0 pred l = fT at *
  have MX := HM.out
  go_enter Tryd.func16, Tryd.ntmps16
  go_wp2_with fail
  go_loopw [3, 12] (fun v i wr => ∃ (k : Nat) (s : ByteArray), k ≤ n ∧ i = .int .i64 k ∧ v = .string s ∧ Hid (s = ⟨(bs pred ++ [40] ++ oA k).toArray⟩) ∧ Hid (Below M w wr) ∧ Hid (M < wr.heap.size)) (fun _ i _ => n - (intOf i).toNat)
  case atStart => exact ⟨0, pred ++ ⟨#[40]⟩, Nat.zero_le _, rfl, rfl, S0, B0, Lib.hid (by rw [SZ.out]; omega)⟩
  case round =>
    obtain ⟨k, s, hk, rfl, rfl, HV, HBe, HSz⟩ := hrel
    have hol := OL.out k hk
    have hsz : s.size ≤ 50200 := by rw [HV.out, size_lit]; simp only [List.length_append, List.length_cons, List.length_nil]; omega
    by_cases hlt : k < n
    · have hlT : k < l.length := by rw [HN.out]; exact hlt
      obtain ⟨g, hadr, hg, f0, f1, f2⟩ := (HR.out.on (HBe.out.mono (by rw [← HM.out]; exact hN))).at hlT
      have OSk := Lib.hid (OS.out k)
      have hok := HR.out.1 _ (tmAt_mem hlT)
      have CT : Hid (∀ W, STab W → Calls Tryd.prog 13 #[.agg #[.int .i64 (tmAt l k).kind, .string (tmAt l k).text, .int .i64 (tmAt l k).n]] W (StrRet W (termT (tmAt l k)))) := Lib.hid (fun W h => text_calls _ hok W h)
      have hts := termT_size hok
      generalize tmAt l k = t at *
      subst hadr
      have IE : Hid (itemT 0 n k t = termT t) := Lib.hid (by unfold itemT; rw [if_neg (by simp)])
      rw [IE.out] at OSk
      clear IE
      generalize termT t = tt at *
      generalize t.kind = x1 at *
      generalize t.text = x2 at *
      generalize t.n = x3 at *
      clear hok hol
      have B3 : Hid (Below M w (wr.alloc (.cells #[.int .i64 x1, .string x2, .int .i64 x3] 44))) := Lib.hid (HBe.out.alloc (Nat.le_of_lt HSz.out) _)
      have S3 : Hid (M < (wr.alloc (.cells #[.int .i64 x1, .string x2, .int .i64 x3] 44)).heap.size) := Lib.hid (by have := HSz.out; simp; omega)
      have T3 : Hid (STab (wr.alloc (.cells #[.int .i64 x1, .string x2, .int .i64 x3] 44))) := Lib.hid (HS.out.on h6 B3.out)
      by_cases hk0 : k = 0
      · have t1 : decide ((0 : Int) < (k : Int)) = false := decide_eq_false (by omega)
        have t2 : decide (0 < k) = false := decide_eq_false (by omega)
        have ES : Hid (s ++ tt = ⟨(bs pred ++ [40] ++ oA (k + 1)).toArray⟩) := Lib.hid (by rw [HV.out, OSk.out, if_pos hk0]; apply ByteArray.ext; simp [bs])
        clear hk0
        go_wp2_with fail
        refine (CT.out _ T3.out).mono ?_
        generalize World.alloc wr _ = W3 at *
        rintro e w5 ⟨rfl, hb5⟩
        have B5 : Hid (Below M w w5) := Lib.hid (B3.out.trans (hb5.mono (Nat.le_of_lt S3.out)))
        have S5 : Hid (M < w5.heap.size) := Lib.hid (Nat.lt_of_lt_of_le S3.out hb5.size)
        clear hb5 f0 f1 f2
        go_wp2_with fail
        go_roundw
        case rel => exact ⟨k + 1, s ++ tt, by omega, by go_num, rfl, ES, B5, S5⟩
        case measure => simp [intOf]; omega
      · have t1 : decide ((0 : Int) < (k : Int)) = true := decide_eq_true (by omega)
        have t2 : decide (0 < k) = true := decide_eq_true (by omega)
        have ES : Hid (s ++ ⟨#[44]⟩ ++ tt = ⟨(bs pred ++ [40] ++ oA (k + 1)).toArray⟩) := Lib.hid (by rw [HV.out, OSk.out, if_neg hk0]; apply ByteArray.ext; simp [bs])
        clear hk0
        go_wp2_with fail
        refine (CT.out _ T3.out).mono ?_
        generalize World.alloc wr _ = W3 at *
        rintro e w5 ⟨rfl, hb5⟩
        have B5 : Hid (Below M w w5) := Lib.hid (B3.out.trans (hb5.mono (Nat.le_of_lt S3.out)))
        have S5 : Hid (M < w5.heap.size) := Lib.hid (Nat.lt_of_lt_of_le S3.out hb5.size)
        clear hb5 f0 f1 f2
        go_wp2_with fail
        go_roundw
        case rel => exact ⟨k + 1, s ++ ⟨#[44]⟩ ++ tt, by omega, by go_num, rfl, ES, B5, S5⟩
        case measure => simp [intOf]; omega
    · obtain rfl : k = n := by omega
      have FS : Hid (s ++ ⟨#[41]⟩ = fT) := Lib.hid (by rw [HV.out, FT.out])
      go_wp2_with fail
      go_ret
      exact ⟨ret_s FS.out, by rw [HM.out]; exact HBe.out⟩
end Go.Proofs.YtaglbeokecbihaaDoor
