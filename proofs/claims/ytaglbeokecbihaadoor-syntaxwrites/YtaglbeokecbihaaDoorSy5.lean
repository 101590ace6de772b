/- An expression written into a builder. Written by mksy5.py. -/
import Derived.Test.YtaglbeokecbihaaDoorSy4
namespace Go.Proofs.YtaglbeokecbihaaDoor
open Go.RowKit
set_option linter.unusedVariables false
set_option linter.unusedSimpArgs false

/-- write appends the expression x, wherever it lies. -/
def WriteAt (x : X) : Prop := ∀ (N B : Nat) (k1 : Int) (k2 : ByteArray) (k3 k4 : Int) (k5 : Option Addr) (k6 k7 : Nat) (acc : Bytes) (W : World), XIn N W x ⟨k1, k2, k3, k4, k5, k6, k7⟩ → N ≤ B → 6 ≤ B → Bld B acc W → STab W → acc.length + (exprB x).length ≤ 100000 →
  Calls Tryd.prog 44 #[.agg #[.int .i64 k1, .string k2, .int .i64 k3, .int .i64 k4, .slice k5 k6 k7], .pointer (some ⟨B, 0, none⟩)] W (WrRet B (acc ++ exprB x) W (.tuple #[]))
set_option maxRecDepth 100000 in
set_option maxHeartbeats 1000000 in
theorem write_leaf (t : Tm) : WriteAt (.leaf t) := by
  intro N B k1 k2 k3 k4 k5 k6 k7 acc W hx hN h6 hb hs hl
  have ci := isOp_k hx
  obtain ⟨hv, hok⟩ := hx
  cases hv
  have ct := fun w h => termString_calls t hok w h
  have hts := termT_size hok
  have EX : Hid (exprB (.leaf t) = bs (termT t)) := Lib.hid rfl
  have hl2 : acc.length ≤ 100000 := by omega
  obtain ⟨M, hM⟩ : ∃ M, W.heap.size = M := ⟨_, rfl⟩
  have HM := Lib.hid hM
  have hBM : B < M := by have := hb.s; omega
  have Y0 := Lib.hid (box5 W (.int .i64 t.kind) (.string t.text) (.int .i64 t.n) (.int .i64 0) (.slice none 0 0) 57)
  have BL := Lib.hid ((Below.refl W.heap.size W).alloc (Nat.le_refl _) (.cells #[.int .i64 t.kind, .string t.text, .int .i64 t.n, .int .i64 0, .slice none 0 0] 57))
  have SZ : Hid ((W.alloc (.cells #[.int .i64 t.kind, .string t.text, .int .i64 t.n, .int .i64 0, .slice none 0 0] 57)).heap.size = M + 1) := Lib.hid (by simp [hM])
  rw [hM] at Y0 BL
  have HBD := Lib.hid hb
  have HST := Lib.hid hs
  clear hb hs hM hl hok
  generalize termT t = r at *
  generalize t.kind = a1 at *
  generalize t.text = a2 at *
  generalize t.n = a3 at *
  go_enter Tryd.func44, Tryd.ntmps44
  go_wp2_with fail
  refine (ci _).mono ?_
  generalize World.alloc W _ = W0 at *
  rintro e w2 ⟨rfl, hb2⟩
  have z1 := (hb2.block M (by rw [SZ.out]; omega)).trans Y0.out
  obtain ⟨p0, p1, p2, p3, p4⟩ := cells5 z1
  have B2 : Hid (Below M W w2) := Lib.hid (BL.out.trans (hb2.mono (by rw [SZ.out]; omega)))
  have S2 : Hid (M + 1 ≤ w2.heap.size) := Lib.hid (by have := hb2.size; rw [SZ.out] at this; exact this)
  clear hb2 z1 ci
  simp only [X.isOp]
  have MX := HM.out
  go_wp2_with fail
  refine (ct w2 (HST.out.on (by omega) B2.out)).mono ?_
  rintro e w3 ⟨rfl, hb3⟩
  have B3 : Hid (Below M W w3) := Lib.hid (B2.out.trans (hb3.mono (by have := S2.out; omega)))
  have D3 := Lib.hid (HBD.out.below (by rw [HM.out]; exact B3.out))
  clear hb3 ct p0 p1 p2 p3 p4
  go_wp2_with fail
  refine (D3.out.ws r (by omega) (by omega)).mono ?_
  rintro e w4 ⟨rfl, hb4, hk4⟩
  have K4 : Hid (Kp B W w4) := Lib.hid ((Kp.of (by rw [HM.out]; omega) (by rw [HM.out]; exact B3.out)).trans hk4)
  have D4 := Lib.hid hb4
  clear hb4 hk4
  go_wp2_with fail
  go_end0
  exact ⟨rfl, by rw [EX.out]; exact D4.out, K4.out⟩
set_option maxRecDepth 100000 in
set_option maxHeartbeats 1000000 in
theorem kid_0 {k : X} (ih : WriteAt k) {N B : Nat} {o g c : Nat} {k1 : Int} {k2 : ByteArray} {k3 k4 : Int} {k5 : Option Addr} {k6 k7 : Nat} {acc : Bytes} {W : World} (ho : o < 5) (hg : g < N) (hN : N ≤ B) (h6 : 6 ≤ B) (hb : Bld B acc W) (hs : STab W) (f0 : W.cell? ⟨g, 0, none⟩ = some (.int .i64 k1)) (f1 : W.cell? ⟨g, 1, none⟩ = some (.string k2)) (f2 : W.cell? ⟨g, 2, none⟩ = some (.int .i64 k3)) (f3 : W.cell? ⟨g, 3, none⟩ = some (.int .i64 k4)) (f4 : W.cell? ⟨g, 4, none⟩ = some (.slice k5 k6 k7)) (hk : XIn N W k ⟨k1, k2, k3, k4, k5, k6, k7⟩) (hl : acc.length + (parB (wrapB o 0 k) (exprB k)).length ≤ 100000) :
    Calls Tryd.prog 55 #[.agg #[.int .i64 0, .string ⟨#[]⟩, .int .i64 0, .int .i64 o, .slice (some ⟨g, 0, none⟩) 2 c], .pointer (some ⟨B, 0, none⟩), .int .i64 0] W (WrRet B (acc ++ parB (wrapB o 0 k) (exprB k)) W (.tuple #[])) := by
  obtain ⟨M, hM⟩ : ∃ M, W.heap.size = M := ⟨_, rfl⟩
  have HM := Lib.hid hM
  have hBM : B < M := by have := hb.s; omega
  have Y0 := Lib.hid (box5 W (.int .i64 0) (.string ⟨#[]⟩) (.int .i64 0) (.int .i64 o) (.slice (some ⟨g, 0, none⟩) 2 c) 57)
  have BL := Lib.hid ((Below.refl W.heap.size W).alloc (Nat.le_refl _) (.cells #[.int .i64 0, .string ⟨#[]⟩, .int .i64 0, .int .i64 o, .slice (some ⟨g, 0, none⟩) 2 c] 57))
  have SZ : Hid ((W.alloc (.cells #[.int .i64 0, .string ⟨#[]⟩, .int .i64 0, .int .i64 o, .slice (some ⟨g, 0, none⟩) 2 c] 57)).heap.size = M + 1) := Lib.hid (by simp [hM])
  rw [hM] at Y0 BL
  have hgB : g < B := by omega
  have hgM : g < M := by omega
  have e0 := (BL.out.cell (p := ⟨g, 0, none⟩) hgM).trans f0
  have e1 := (BL.out.cell (p := ⟨g, 1, none⟩) hgM).trans f1
  have e2 := (BL.out.cell (p := ⟨g, 2, none⟩) hgM).trans f2
  have e3 := (BL.out.cell (p := ⟨g, 3, none⟩) hgM).trans f3
  have e4 := (BL.out.cell (p := ⟨g, 4, none⟩) hgM).trans f4
  have FF : Hid (∀ w, Below B W w → w.cell? ⟨g, 0, none⟩ = some (.int .i64 k1) ∧ w.cell? ⟨g, 1, none⟩ = some (.string k2) ∧ w.cell? ⟨g, 2, none⟩ = some (.int .i64 k3) ∧ w.cell? ⟨g, 3, none⟩ = some (.int .i64 k4) ∧ w.cell? ⟨g, 4, none⟩ = some (.slice k5 k6 k7)) := Lib.hid (fun w h => ⟨(h.cell (p := ⟨g, 0, none⟩) hgB).trans f0, (h.cell (p := ⟨g, 1, none⟩) hgB).trans f1, (h.cell (p := ⟨g, 2, none⟩) hgB).trans f2, (h.cell (p := ⟨g, 3, none⟩) hgB).trans f3, (h.cell (p := ⟨g, 4, none⟩) hgB).trans f4⟩)
  have XK := Lib.hid hk
  have IH := Lib.hid ih
  have cw := wraps_0 (c := c) (W.alloc (.cells #[.int .i64 0, .string ⟨#[]⟩, .int .i64 0, .int .i64 o, .slice (some ⟨g, 0, none⟩) 2 c] 57)) ho (show g < N from hg) (by rw [SZ.out]; omega) e0 e1 e2 e3 e4 (hk.on (BL.out.mono (by omega)))
  have HBD := Lib.hid hb
  have HST := Lib.hid hs
  have hl2 : acc.length ≤ 100000 := by omega
  have HL := Lib.hid hl
  clear f0 f1 f2 f3 f4 hb hs hM hk ih hl e0 e1 e2 e3 e4
  obtain ⟨p, hp⟩ : ∃ p, wrapB o 0 k = p := ⟨_, rfl⟩
  rw [hp] at cw HL ⊢
  clear hp
  go_enter Tryd.func55, Tryd.ntmps55
  go_wp2_with fail
  refine cw.mono ?_
  generalize World.alloc W _ = W0 at *
  rintro e w2 ⟨rfl, hb2⟩
  have z1 := (hb2.block M (by rw [SZ.out]; omega)).trans Y0.out
  obtain ⟨p0, p1, p2, p3, p4⟩ := cells5 z1
  have B2 : Hid (Below M W w2) := Lib.hid (BL.out.trans (hb2.mono (by rw [SZ.out]; omega)))
  have S2 : Hid (M + 1 ≤ w2.heap.size) := Lib.hid (by have := hb2.size; rw [SZ.out] at this; exact this)
  have CF := FF.out w2 (B2.out.mono (by omega))
  obtain ⟨c0, c1, c2, c3, c4⟩ := CF
  have D2 := Lib.hid (HBD.out.below (by rw [HM.out]; exact B2.out))
  have K2 : Hid (Kp B W w2) := Lib.hid (Kp.of (by rw [HM.out]; omega) (by rw [HM.out]; exact B2.out))
  have Z1 := Lib.hid z1
  have T2 : Hid (STab w2) := Lib.hid (HST.out.on (by omega) B2.out)
  clear hb2 z1 cw
  have MX := HM.out
  cases p with
  | false =>
    have EX : Hid (parB false (exprB k) = exprB k) := Lib.hid rfl
    go_wp2_with fail
    refine (IH.out N B k1 k2 k3 k4 k5 k6 k7 acc w2 (XK.out.on (B2.out.mono (by omega))) hN h6 D2.out T2.out (by have := HL.out; simp [parB] at this; omega)).mono ?_
    rintro e w3 ⟨rfl, hb3, hk3⟩
    have K3 : Hid (Kp B W w3) := Lib.hid (K2.out.trans hk3)
    have D3 := Lib.hid hb3
    clear hb3 hk3 p0 p1 p2 p3 p4 c0 c1 c2 c3 c4
    go_wp2_with fail
    go_end0
    exact ⟨rfl, by rw [EX.out]; exact D3.out, K3.out⟩
  | true =>
    have EX : Hid (acc ++ parB true (exprB k) = acc ++ [40] ++ exprB k ++ [41]) := Lib.hid (by simp [parB])
    go_wp2_with fail
    refine (D2.out.wb 40 (by omega)).mono ?_
    rintro e w3 ⟨rfl, hb3, hk3⟩
    have K3 : Hid (Kp B W w3) := Lib.hid (K2.out.trans hk3)
    have D3 := Lib.hid hb3
    have z3 := hk3.box Z1.out (by omega) (by decide)
    clear p0 p1 p2 p3 p4 c0 c1 c2 c3 c4 hb3 hk3
    obtain ⟨p0, p1, p2, p3, p4⟩ := cells5 z3
    obtain ⟨c0, c1, c2, c3, c4⟩ := FF.out w3 K3.out.bel
    clear z3
    go_wp2_with fail
    refine (IH.out N B k1 k2 k3 k4 k5 k6 k7 (acc ++ [40]) w3 (XK.out.on (K3.out.bel.mono hN)) hN h6 D3.out (HST.out.on h6 K3.out.bel) (by have := HL.out; simp [parB] at this; rw [List.length_append]; show acc.length + 1 + _ ≤ _; omega)).mono ?_
    rintro e w4 ⟨rfl, hb4, hk4⟩
    have K4 : Hid (Kp B W w4) := Lib.hid (K3.out.trans hk4)
    have D4 := Lib.hid hb4
    clear hb4 hk4 p0 p1 p2 p3 p4 c0 c1 c2 c3 c4
    go_wp2_with fail
    refine (D4.out.wb 41 (by have := HL.out; simp [parB] at this; rw [List.length_append, List.length_append]; show acc.length + 1 + _ ≤ _; omega)).mono ?_
    rintro e w5 ⟨rfl, hb5, hk5⟩
    have K5 : Hid (Kp B W w5) := Lib.hid (K4.out.trans hk5)
    have D5 := Lib.hid hb5
    clear hb5 hk5
    go_wp2_with fail
    go_end0
    exact ⟨rfl, by rw [EX.out]; exact D5.out, K5.out⟩
set_option maxRecDepth 100000 in
set_option maxHeartbeats 1000000 in
theorem kid_1 {k : X} (ih : WriteAt k) {N B : Nat} {o g c : Nat} {k1 : Int} {k2 : ByteArray} {k3 k4 : Int} {k5 : Option Addr} {k6 k7 : Nat} {acc : Bytes} {W : World} (ho : o < 5) (hg : g < N) (hN : N ≤ B) (h6 : 6 ≤ B) (hb : Bld B acc W) (hs : STab W) (f0 : W.cell? ⟨g, 5, none⟩ = some (.int .i64 k1)) (f1 : W.cell? ⟨g, 6, none⟩ = some (.string k2)) (f2 : W.cell? ⟨g, 7, none⟩ = some (.int .i64 k3)) (f3 : W.cell? ⟨g, 8, none⟩ = some (.int .i64 k4)) (f4 : W.cell? ⟨g, 9, none⟩ = some (.slice k5 k6 k7)) (hk : XIn N W k ⟨k1, k2, k3, k4, k5, k6, k7⟩) (hl : acc.length + (parB (wrapB o 1 k) (exprB k)).length ≤ 100000) :
    Calls Tryd.prog 55 #[.agg #[.int .i64 0, .string ⟨#[]⟩, .int .i64 0, .int .i64 o, .slice (some ⟨g, 0, none⟩) 2 c], .pointer (some ⟨B, 0, none⟩), .int .i64 1] W (WrRet B (acc ++ parB (wrapB o 1 k) (exprB k)) W (.tuple #[])) := by
  obtain ⟨M, hM⟩ : ∃ M, W.heap.size = M := ⟨_, rfl⟩
  have HM := Lib.hid hM
  have hBM : B < M := by have := hb.s; omega
  have Y0 := Lib.hid (box5 W (.int .i64 0) (.string ⟨#[]⟩) (.int .i64 0) (.int .i64 o) (.slice (some ⟨g, 0, none⟩) 2 c) 57)
  have BL := Lib.hid ((Below.refl W.heap.size W).alloc (Nat.le_refl _) (.cells #[.int .i64 0, .string ⟨#[]⟩, .int .i64 0, .int .i64 o, .slice (some ⟨g, 0, none⟩) 2 c] 57))
  have SZ : Hid ((W.alloc (.cells #[.int .i64 0, .string ⟨#[]⟩, .int .i64 0, .int .i64 o, .slice (some ⟨g, 0, none⟩) 2 c] 57)).heap.size = M + 1) := Lib.hid (by simp [hM])
  rw [hM] at Y0 BL
  have hgB : g < B := by omega
  have hgM : g < M := by omega
  have e0 := (BL.out.cell (p := ⟨g, 5, none⟩) hgM).trans f0
  have e1 := (BL.out.cell (p := ⟨g, 6, none⟩) hgM).trans f1
  have e2 := (BL.out.cell (p := ⟨g, 7, none⟩) hgM).trans f2
  have e3 := (BL.out.cell (p := ⟨g, 8, none⟩) hgM).trans f3
  have e4 := (BL.out.cell (p := ⟨g, 9, none⟩) hgM).trans f4
  have FF : Hid (∀ w, Below B W w → w.cell? ⟨g, 5, none⟩ = some (.int .i64 k1) ∧ w.cell? ⟨g, 6, none⟩ = some (.string k2) ∧ w.cell? ⟨g, 7, none⟩ = some (.int .i64 k3) ∧ w.cell? ⟨g, 8, none⟩ = some (.int .i64 k4) ∧ w.cell? ⟨g, 9, none⟩ = some (.slice k5 k6 k7)) := Lib.hid (fun w h => ⟨(h.cell (p := ⟨g, 5, none⟩) hgB).trans f0, (h.cell (p := ⟨g, 6, none⟩) hgB).trans f1, (h.cell (p := ⟨g, 7, none⟩) hgB).trans f2, (h.cell (p := ⟨g, 8, none⟩) hgB).trans f3, (h.cell (p := ⟨g, 9, none⟩) hgB).trans f4⟩)
  have XK := Lib.hid hk
  have IH := Lib.hid ih
  have cw := wraps_1 (c := c) (W.alloc (.cells #[.int .i64 0, .string ⟨#[]⟩, .int .i64 0, .int .i64 o, .slice (some ⟨g, 0, none⟩) 2 c] 57)) ho (show g < N from hg) (by rw [SZ.out]; omega) e0 e1 e2 e3 e4 (hk.on (BL.out.mono (by omega)))
  have HBD := Lib.hid hb
  have HST := Lib.hid hs
  have hl2 : acc.length ≤ 100000 := by omega
  have HL := Lib.hid hl
  clear f0 f1 f2 f3 f4 hb hs hM hk ih hl e0 e1 e2 e3 e4
  obtain ⟨p, hp⟩ : ∃ p, wrapB o 1 k = p := ⟨_, rfl⟩
  rw [hp] at cw HL ⊢
  clear hp
  go_enter Tryd.func55, Tryd.ntmps55
  go_wp2_with fail
  refine cw.mono ?_
  generalize World.alloc W _ = W0 at *
  rintro e w2 ⟨rfl, hb2⟩
  have z1 := (hb2.block M (by rw [SZ.out]; omega)).trans Y0.out
  obtain ⟨p0, p1, p2, p3, p4⟩ := cells5 z1
  have B2 : Hid (Below M W w2) := Lib.hid (BL.out.trans (hb2.mono (by rw [SZ.out]; omega)))
  have S2 : Hid (M + 1 ≤ w2.heap.size) := Lib.hid (by have := hb2.size; rw [SZ.out] at this; exact this)
  have CF := FF.out w2 (B2.out.mono (by omega))
  obtain ⟨c0, c1, c2, c3, c4⟩ := CF
  have D2 := Lib.hid (HBD.out.below (by rw [HM.out]; exact B2.out))
  have K2 : Hid (Kp B W w2) := Lib.hid (Kp.of (by rw [HM.out]; omega) (by rw [HM.out]; exact B2.out))
  have Z1 := Lib.hid z1
  have T2 : Hid (STab w2) := Lib.hid (HST.out.on (by omega) B2.out)
  clear hb2 z1 cw
  have MX := HM.out
  cases p with
  | false =>
    have EX : Hid (parB false (exprB k) = exprB k) := Lib.hid rfl
    go_wp2_with fail
    refine (IH.out N B k1 k2 k3 k4 k5 k6 k7 acc w2 (XK.out.on (B2.out.mono (by omega))) hN h6 D2.out T2.out (by have := HL.out; simp [parB] at this; omega)).mono ?_
    rintro e w3 ⟨rfl, hb3, hk3⟩
    have K3 : Hid (Kp B W w3) := Lib.hid (K2.out.trans hk3)
    have D3 := Lib.hid hb3
    clear hb3 hk3 p0 p1 p2 p3 p4 c0 c1 c2 c3 c4
    go_wp2_with fail
    go_end0
    exact ⟨rfl, by rw [EX.out]; exact D3.out, K3.out⟩
  | true =>
    have EX : Hid (acc ++ parB true (exprB k) = acc ++ [40] ++ exprB k ++ [41]) := Lib.hid (by simp [parB])
    go_wp2_with fail
    refine (D2.out.wb 40 (by omega)).mono ?_
    rintro e w3 ⟨rfl, hb3, hk3⟩
    have K3 : Hid (Kp B W w3) := Lib.hid (K2.out.trans hk3)
    have D3 := Lib.hid hb3
    have z3 := hk3.box Z1.out (by omega) (by decide)
    clear p0 p1 p2 p3 p4 c0 c1 c2 c3 c4 hb3 hk3
    obtain ⟨p0, p1, p2, p3, p4⟩ := cells5 z3
    obtain ⟨c0, c1, c2, c3, c4⟩ := FF.out w3 K3.out.bel
    clear z3
    go_wp2_with fail
    refine (IH.out N B k1 k2 k3 k4 k5 k6 k7 (acc ++ [40]) w3 (XK.out.on (K3.out.bel.mono hN)) hN h6 D3.out (HST.out.on h6 K3.out.bel) (by have := HL.out; simp [parB] at this; rw [List.length_append]; show acc.length + 1 + _ ≤ _; omega)).mono ?_
    rintro e w4 ⟨rfl, hb4, hk4⟩
    have K4 : Hid (Kp B W w4) := Lib.hid (K3.out.trans hk4)
    have D4 := Lib.hid hb4
    clear hb4 hk4 p0 p1 p2 p3 p4 c0 c1 c2 c3 c4
    go_wp2_with fail
    refine (D4.out.wb 41 (by have := HL.out; simp [parB] at this; rw [List.length_append, List.length_append]; show acc.length + 1 + _ ≤ _; omega)).mono ?_
    rintro e w5 ⟨rfl, hb5, hk5⟩
    have K5 : Hid (Kp B W w5) := Lib.hid (K4.out.trans hk5)
    have D5 := Lib.hid hb5
    clear hb5 hk5
    go_wp2_with fail
    go_end0
    exact ⟨rfl, by rw [EX.out]; exact D5.out, K5.out⟩
set_option maxRecDepth 100000 in
set_option maxHeartbeats 1000000 in
theorem write_op (o : Nat) (a b : X) (iha : WriteAt a) (ihb : WriteAt b) : WriteAt (.op o a b) := by
  intro N B k1 k2 k3 k4 k5 k6 k7 acc W hx hN h6 hb hs hl
  have ci := isOp_k hx
  obtain ⟨g, c, va, vb, hv, ho, hg, hca, hcb, hxa, hxb⟩ := hx
  cases hv
  obtain ⟨a1, a2, a3, a4, a5, a6, a7⟩ := va
  obtain ⟨b1, b2, b3, b4, b5, b6, b7⟩ := vb
  have hs5 := ariS_size o ho
  have EX : Hid (exprB (.op o a b) = parB (wrapB o 0 a) (exprB a) ++ ([32] ++ bs (ariS o) ++ [32]) ++ parB (wrapB o 1 b) (exprB b)) := Lib.hid rfl
  have hla : (parB (wrapB o 0 a) (exprB a)).length + 3 + (parB (wrapB o 1 b) (exprB b)).length = (exprB (.op o a b)).length := by
    rw [EX.out]
    simp only [List.length_append, List.length_cons, List.length_nil, bs_len, hs5]
  have hgB : g < B := by omega
  have FA : Hid (∀ w, Below B W w → w.cell? ⟨g, 0, none⟩ = some (.int .i64 a1) ∧ w.cell? ⟨g, 1, none⟩ = some (.string a2) ∧ w.cell? ⟨g, 2, none⟩ = some (.int .i64 a3) ∧ w.cell? ⟨g, 3, none⟩ = some (.int .i64 a4) ∧ w.cell? ⟨g, 4, none⟩ = some (.slice a5 a6 a7)) := Lib.hid (fun w h => ⟨(h.cell (p := ⟨g, 0, none⟩) hgB).trans (hca 0 _ rfl), (h.cell (p := ⟨g, 1, none⟩) hgB).trans (hca 1 _ rfl), (h.cell (p := ⟨g, 2, none⟩) hgB).trans (hca 2 _ rfl), (h.cell (p := ⟨g, 3, none⟩) hgB).trans (hca 3 _ rfl), (h.cell (p := ⟨g, 4, none⟩) hgB).trans (hca 4 _ rfl)⟩)
  have FB : Hid (∀ w, Below B W w → w.cell? ⟨g, 5, none⟩ = some (.int .i64 b1) ∧ w.cell? ⟨g, 6, none⟩ = some (.string b2) ∧ w.cell? ⟨g, 7, none⟩ = some (.int .i64 b3) ∧ w.cell? ⟨g, 8, none⟩ = some (.int .i64 b4) ∧ w.cell? ⟨g, 9, none⟩ = some (.slice b5 b6 b7)) := Lib.hid (fun w h => ⟨(h.cell (p := ⟨g, 5, none⟩) hgB).trans (hcb 0 _ rfl), (h.cell (p := ⟨g, 6, none⟩) hgB).trans (hcb 1 _ rfl), (h.cell (p := ⟨g, 7, none⟩) hgB).trans (hcb 2 _ rfl), (h.cell (p := ⟨g, 8, none⟩) hgB).trans (hcb 3 _ rfl), (h.cell (p := ⟨g, 9, none⟩) hgB).trans (hcb 4 _ rfl)⟩)
  have XA := Lib.hid hxa
  have XB := Lib.hid hxb
  have IA := Lib.hid iha
  have IB := Lib.hid ihb
  obtain ⟨M, hM⟩ : ∃ M, W.heap.size = M := ⟨_, rfl⟩
  have HM := Lib.hid hM
  have hBM : B < M := by have := hb.s; omega
  have Y0 := Lib.hid (box5 W (.int .i64 0) (.string ⟨#[]⟩) (.int .i64 0) (.int .i64 o) (.slice (some ⟨g, 0, none⟩) 2 k7) 57)
  have BL := Lib.hid ((Below.refl W.heap.size W).alloc (Nat.le_refl _) (.cells #[.int .i64 0, .string ⟨#[]⟩, .int .i64 0, .int .i64 o, .slice (some ⟨g, 0, none⟩) 2 k7] 57))
  have SZ : Hid ((W.alloc (.cells #[.int .i64 0, .string ⟨#[]⟩, .int .i64 0, .int .i64 o, .slice (some ⟨g, 0, none⟩) 2 k7] 57)).heap.size = M + 1) := Lib.hid (by simp [hM])
  rw [hM] at Y0 BL
  have HBD := Lib.hid hb
  have HST := Lib.hid hs
  have HL := Lib.hid hl
  have HA := Lib.hid hla
  have hl0 : acc.length ≤ 100000 := by omega
  clear hb hs hM hl hla hca hcb hxa hxb iha ihb
  go_enter Tryd.func44, Tryd.ntmps44
  go_wp2_with fail
  refine (ci _).mono ?_
  generalize World.alloc W _ = W0 at *
  rintro e w2 ⟨rfl, hb2⟩
  have z2 := (hb2.block M (by rw [SZ.out]; omega)).trans Y0.out
  obtain ⟨p0, p1, p2, p3, p4⟩ := cells5 z2
  have B2 : Hid (Below M W w2) := Lib.hid (BL.out.trans (hb2.mono (by rw [SZ.out]; omega)))
  have D2 := Lib.hid (HBD.out.below (by rw [HM.out]; exact B2.out))
  have K2 : Hid (Kp B W w2) := Lib.hid (Kp.of (by rw [HM.out]; omega) (by rw [HM.out]; exact B2.out))
  have Z2 := Lib.hid z2
  clear hb2 z2 ci
  simp only [X.isOp]
  have MX := HM.out
  go_wp2_with fail
  obtain ⟨c0, c1, c2, c3, c4⟩ := FA.out w2 K2.out.bel
  refine (kid_0 IA.out ho hg hN h6 D2.out (HST.out.on h6 K2.out.bel) c0 c1 c2 c3 c4 (XA.out.on (K2.out.bel.mono hN)) (by have := HL.out; have := HA.out; omega)).mono ?_
  clear c0 c1 c2 c3 c4 p0 p1 p2 p3 p4
  rintro e w3 ⟨rfl, hb3, hk3⟩
  have K3 : Hid (Kp B W w3) := Lib.hid (K2.out.trans hk3)
  have D3 := Lib.hid hb3
  have z3 := hk3.box Z2.out (by omega) (by decide)
  have Z3 := Lib.hid z3
  obtain ⟨p0, p1, p2, p3, p4⟩ := cells5 z3
  clear hb3 hk3 z3
  go_wp2_with fail
  refine (ariSign_calls o ho w3 (HST.out.on h6 K3.out.bel)).mono ?_
  rintro e w' ⟨rfl, rfl⟩
  have SG : Hid ((⟨#[32]⟩ ++ ariS o ++ ⟨#[32]⟩ : ByteArray).size = 3) := Lib.hid (by rw [ByteArray.size_append, ByteArray.size_append, hs5]; rfl)
  have SB : Hid (bs (⟨#[32]⟩ ++ ariS o ++ ⟨#[32]⟩) = [32] ++ bs (ariS o) ++ [32]) := Lib.hid (by rw [bs_app, bs_app]; rfl)
  generalize ariS o = sg at *
  go_wp2_with fail
  refine (D3.out.ws _ (by have := HL.out; have := HA.out; rw [List.length_append]; omega) (by rw [SG.out]; omega)).mono ?_
  clear p0 p1 p2 p3 p4
  rintro e w4 ⟨rfl, hb4, hk4⟩
  rw [SB.out] at hb4
  have K4 : Hid (Kp B W w4) := Lib.hid (K3.out.trans hk4)
  have D4 := Lib.hid hb4
  have z4 := hk4.box Z3.out (by omega) (by decide)
  obtain ⟨p0, p1, p2, p3, p4⟩ := cells5 z4
  clear hb4 hk4 z4
  go_wp2_with fail
  obtain ⟨c0, c1, c2, c3, c4⟩ := FB.out w4 K4.out.bel
  refine (kid_1 IB.out ho hg hN h6 D4.out (HST.out.on h6 K4.out.bel) c0 c1 c2 c3 c4 (XB.out.on (K4.out.bel.mono hN)) (by
    have h1 := HL.out
    have h2 := HA.out
    have h3 : (bs sg).length = 1 := by rw [bs_len]; exact hs5
    simp only [List.length_append, List.length_cons, List.length_nil, h3]
    omega)).mono ?_
  clear c0 c1 c2 c3 c4 p0 p1 p2 p3 p4
  rintro e w5 ⟨rfl, hb5, hk5⟩
  have K5 : Hid (Kp B W w5) := Lib.hid (K4.out.trans hk5)
  have D5 : Hid (Bld B (acc ++ exprB (.op o a b)) w5) := Lib.hid (by
    have h9 := hb5
    rw [EX.out]
    simpa only [List.append_assoc] using h9)
  clear hb5 hk5
  go_wp2_with fail
  go_end0
  exact ⟨rfl, D5.out, K5.out⟩
theorem write_all : ∀ x : X, WriteAt x
  | .leaf t => write_leaf t
  | .op o a b => write_op o a b (write_all a) (write_all b)
end Go.Proofs.YtaglbeokecbihaaDoor
