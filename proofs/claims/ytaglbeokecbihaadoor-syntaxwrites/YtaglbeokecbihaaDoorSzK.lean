/- The law's Write where there is an aggregate. Written by mkszq.py. -/
import Derived.Test.YtaglbeokecbihaaDoorSzH
namespace Go.Proofs.YtaglbeokecbihaaDoor
open Go.RowKit
set_option linter.unusedVariables false
set_option linter.unusedSimpArgs false

set_option maxRecDepth 100000 in
set_option maxHeartbeats 4000000 in
theorem write_agn (ag : Nat) (h0 : ag ≠ 0) (h5 : ag < 5) (pred : ByteArray) (a : Option Addr) (l : List Tm) (c : Nat) (ba : Option Addr) (ps : List Pt) (bc : Nat) (at9 : Int) (N : Nat) (w : World) (hN : N ≤ w.heap.size) (hr : TmRow N w a l) (hps : PtRow N w ba ps) (hs : STab w) (hp : pred.size ≤ 100) (hn : l.length ≤ 1000) (hpl : ps.length ≤ 10) (hl1 : 1 ≤ l.length) (hlc : l.length ≤ c) (hz1 : ¬ l.length = 1) : Calls Tryd.prog 34 #[.agg #[.string pred, .slice a l.length c, .int .i64 (ag : Nat), .slice ba ps.length bc, .int .i64 at9]] w (StrRet w ⟨(ruleB ag pred l ps).toArray⟩) := by
  obtain ⟨nn, hnn1⟩ : ∃ nn, l.length = nn + 1 := ⟨l.length - 1, by omega⟩
  obtain ⟨g, hag, hgN, f0, f1, f2⟩ := hr.at (i := nn) (by omega)
  subst hag
  have OL := Lib.hid (outP_len hps)
  obtain ⟨M, hM⟩ : ∃ M, w.heap.size = M := ⟨_, rfl⟩
  have HM := Lib.hid hM
  have h6 : 6 ≤ M := by have := hs.sz; omega
  obtain ⟨n, hnn⟩ : ∃ n, ps.length = n := ⟨_, rfl⟩
  obtain ⟨ln, hln⟩ : ∃ ln, l.length = ln := ⟨_, rfl⟩
  have HN := Lib.hid hnn
  have HLN := Lib.hid hln
  have HP := Lib.hid hps
  have HR := Lib.hid hr
  have HS := Lib.hid hs
  have OS := Lib.hid (fun k => show outP ps (k + 1) = outP ps k ++ (if k = 0 then [32, 58, 45, 32] else [44, 32]) ++ bs (partT (ptAt ps k)) from rfl)
  have OZ : Hid (outP ps 0 = []) := Lib.hid rfl
  obtain ⟨AB, hab⟩ : ∃ AB, atomB ag pred l = AB := ⟨_, rfl⟩
  have ABE := Lib.hid hab
  have HAB : Hid (AB.length ≤ 51000) := Lib.hid (by have := atom_size hr.1 (show ag < 5 by omega) hp hn; rw [← hab]; rw [atomT, size_lit] at this; exact this)
  have FT : Hid ((⟨(ruleB ag pred l ps).toArray⟩ : ByteArray) = ⟨(AB ++ outP ps n ++ [46]).toArray⟩) := Lib.hid (by unfold ruleB; rw [hab, hnn])
  have B0 : Hid (Below M w (w.alloc (.cells #[.string pred, .slice (some ⟨g, 0, none⟩) ln c, .int .i64 (ag : Nat), .slice ba n bc, .int .i64 at9] 71))) := Lib.hid ((Below.refl M w).alloc (by omega) _)
  have Y0 : Hid ((w.alloc (.cells #[.string pred, .slice (some ⟨g, 0, none⟩) ln c, .int .i64 (ag : Nat), .slice ba n bc, .int .i64 at9] 71)).heap[M]? = some (.cells #[.string pred, .slice (some ⟨g, 0, none⟩) ln c, .int .i64 (ag : Nat), .slice ba n bc, .int .i64 at9] 71 (0, 0))) := Lib.hid (by rw [← hM]; exact box16 w _ _)
  have S0 : Hid ((w.alloc (.cells #[.string pred, .slice (some ⟨g, 0, none⟩) ln c, .int .i64 (ag : Nat), .slice ba n bc, .int .i64 at9] 71)).heap.size = M + 1) := Lib.hid (by simp [hM])
  have CA := Lib.hid (lawAtom_calls pred (some ⟨g, 0, none⟩) l c N (w.alloc (.cells #[.string pred, .slice (some ⟨g, 0, none⟩) ln c, .int .i64 (ag : Nat), .slice ba n bc, .int .i64 at9] 71)) (by rw [S0.out]; omega) (hr.on (B0.out.mono (by omega))) (hs.on h6 B0.out) hp hn)
  rw [hnn] at OL hpl ⊢
  rw [hln] at CA hn ⊢
  have ABX : Hid (atomB ag pred l = bs pred ++ [40] ++ outA 0 (l.take nn) nn ++ (if nn = 0 then [] else [44]) ++ (bs (wrdS ag) ++ [60] ++ bs (termT (tmAt l nn))) ++ [62, 41]) := Lib.hid (atomB_agg h0 pred hnn1)
  have AT : Hid (atomT 0 pred (l.take nn) = ⟨(bs pred ++ [40] ++ outA 0 (l.take nn) nn).toArray⟩ ++ ⟨#[41]⟩) := Lib.hid (atom0_take pred hnn1)
  have hok := hr.1 _ (tmAt_mem (show nn < l.length by omega))
  have CT0 : Hid (∀ v, STab v → Calls Tryd.prog 13 #[.agg #[.int .i64 (tmAt l nn).kind, .string (tmAt l nn).text, .int .i64 (tmAt l nn).n]] v (StrRet v (termT (tmAt l nn)))) := Lib.hid (fun v h => text_calls _ hok v h)
  have CLX : Hid (∀ v, Below M w v → Calls Tryd.prog 16 #[.agg #[.string pred, .slice (some ⟨g, 0, none⟩) nn c]] v (StrRet v (atomT 0 pred (l.take nn)))) := Lib.hid (fun v h => by
    have hlt : (l.take nn).length = nn := by rw [List.length_take]; omega
    have h9 := lawAtom_calls pred (some ⟨g, 0, none⟩) (l.take nn) c N v (by have := h.size; omega) ((tmrow_take hr nn).on (h.mono (by omega))) (hs.on h6 h) hp (by omega)
    rwa [hlt] at h9)
  rw [AT.out] at CLX
  have hln1 : ln = nn + 1 := by omega
  have HN0 : Hid (¬ nn = 0) := Lib.hid (by omega)
  have hlc2 : nn ≤ c := by omega
  clear hr hps hs hnn hln hab hok AT hnn1 hl1 hz1
  generalize termT (tmAt l nn) = tx at *
  generalize (tmAt l nn).kind = x1 at *
  generalize (tmAt l nn).text = x2 at *
  generalize (tmAt l nn).n = x3 at *
  obtain ⟨s1, hs1e⟩ : ∃ s1 : ByteArray, ⟨(bs pred ++ [40] ++ outA 0 (l.take nn) nn).toArray⟩ = s1 := ⟨_, rfl⟩
  have S1E := Lib.hid hs1e.symm
  rw [hs1e] at CLX
  clear hs1e
  obtain ⟨s0, hs0⟩ : ∃ s0 : ByteArray, s1 ++ ⟨#[41]⟩ = s0 := ⟨_, rfl⟩
  obtain ⟨z, hz⟩ : ∃ z, s1.size = z := ⟨_, rfl⟩
  have hz0 : s0.size = z + 1 := by rw [← hs0, ByteArray.size_append, hz]; rfl
  have xe : s0.extract 0 z = s1 := by rw [← hs0, ← hz]; exact extract_pre _ _
  rw [hs0] at CLX
  have hz9 : z ≤ 60000 := by
    have h1 : s1.size = (bs pred ++ [40] ++ outA 0 (l.take nn) nn).length := by rw [S1E.out]; exact size_lit _
    rw [hz] at h1
    have h2 := congrArg List.length ABX.out
    have h3 := HAB.out
    rw [← ABE.out] at h3
    simp only [List.length_append] at h1 h2
    omega
  have S0E := Lib.hid hs0
  have HZ := Lib.hid hz
  have HZ0 := Lib.hid hz0
  have TZ : Hid ((s0.size : Int) - 1 = (z : Int)) := Lib.hid (by omega)
  have XE1 : Hid (s0.extract 0 ((s0.size : Int) - 1).toNat = s1) := Lib.hid (by rw [show ((s0.size : Int) - 1).toNat = z by omega]; exact xe)
  have XE2 : Hid (s0.extract 0 (s0.size - 1) = s1) := Lib.hid (by rw [show s0.size - 1 = z by omega]; exact xe)
  have s0a : (1 : Int) ≤ (s0.size : Int) := by omega
  have s0b : (s0.size : Int) ≤ 60001 := by omega
  have bz : (z : Int) ≤ (s0.size : Int) := by omega
  have bz0 : (0 : Int) ≤ (z : Int) := by omega
  have XE := Lib.hid xe
  clear hs0 hz hz0 xe
  generalize outP ps = oP at *
  generalize (⟨(ruleB ag pred l ps).toArray⟩ : ByteArray) = fT at *
  have HMW := Lib.hid hM
  clear hM
  have TG : Hid ((((ag : Nat) : Int) != 0) = true) := Lib.hid (by simp; omega)
  have TQ : Hid ((ln : Int) - 1 = (nn : Int)) := Lib.hid (by omega)
  have i1 : (nn : Int) ≤ (c : Int) := by omega
  have i0 : (0 : Int) ≤ (nn : Int) := by omega
  have i2 : (nn : Int) < (ln : Int) := by omega
  clear hln1 hz9
  have MX := HM.out
  go_enter Tryd.func34, Tryd.ntmps34
  go_wp2_with fail
  refine CA.out.mono ?_
  generalize World.alloc w _ = W0 at *
  rintro e w1 ⟨rfl, hb1⟩
  have B1 : Below M w w1 := B0.out.trans (hb1.mono (by rw [S0.out]; omega))
  have s1' : M < w1.heap.size := by have := hb1.size; rw [S0.out] at this; exact this
  have z1 := (hb1.block M (by rw [S0.out]; omega)).trans Y0.out
  have Y1 := Lib.hid z1
  obtain ⟨H, hH⟩ : ∃ H, w1.heap.size = H := ⟨_, rfl⟩
  have HH1 := Lib.hid hH
  have hMH : M < H := by omega
  obtain ⟨p0, p1, p2, p3, p4⟩ := cells5 z1
  have D1 : Below H w1 w1.drew := (Below.refl _ _).drew
  have D2 : Below H w1 (w1.alloc (.cells #[.string ⟨#[]⟩, .slice none 0 0] 49)).drew := ((Below.refl H w1).alloc (by omega) _).drew
  have D3 : Below H w1 (w1.alloc (.cells #[.string pred, .slice (some ⟨g, 0, none⟩) nn c] 49)).drew := ((Below.refl H w1).alloc (by omega) _).drew
  have B2h := Lib.hid D3
  have B2 : Hid (Below M w (w1.alloc (.cells #[.string pred, .slice (some ⟨g, 0, none⟩) nn c] 49)).drew) := Lib.hid (B1.trans (D3.mono (by omega)))
  have SW2 : Hid ((w1.alloc (.cells #[.string pred, .slice (some ⟨g, 0, none⟩) nn c] 49)).drew.heap.size = H + 1) := Lib.hid (by show (w1.alloc (.cells #[.string pred, .slice (some ⟨g, 0, none⟩) nn c] 49)).heap.size = _; simp [hH])
  have CL := Lib.hid (CLX.out _ B2.out)
  have hgH : g < H := by have := B1.size; have := HMW.out; omega
  have F4 : Hid (∀ v, Below H w1 v → v.cell? ⟨M, 0, none⟩ = some (.string pred) ∧ v.cell? ⟨M, 1, none⟩ = some (.slice (some ⟨g, 0, none⟩) ln c)) := Lib.hid (fun v h => ⟨(h.cell (p := ⟨M, 0, none⟩) hMH).trans p0, (h.cell (p := ⟨M, 1, none⟩) hMH).trans p1⟩)
  have F2 : Hid (∀ v, Below (w1.alloc (.cells #[.string pred, .slice (some ⟨g, 0, none⟩) nn c] 49)).drew.heap.size (w1.alloc (.cells #[.string pred, .slice (some ⟨g, 0, none⟩) nn c] 49)).drew v → v.cell? ⟨M, 1, none⟩ = some (.slice (some ⟨g, 0, none⟩) ln c) ∧ v.cell? ⟨M, 2, none⟩ = some (.int .i64 (ag : Nat)) ∧ v.cell? ⟨g, nn * 3, none⟩ = some (.int .i64 x1) ∧ v.cell? ⟨g, nn * 3 + 1, none⟩ = some (.string x2) ∧ v.cell? ⟨g, nn * 3 + 2, none⟩ = some (.int .i64 x3)) := Lib.hid (fun v h =>
    have hv : Below H w1 v := D3.trans (h.mono (by rw [SW2.out]; omega))
    have hw := B1.trans (hv.mono (by omega))
    ⟨(hv.cell (p := ⟨M, 1, none⟩) hMH).trans p1, (hv.cell (p := ⟨M, 2, none⟩) hMH).trans p2, (hw.cell (p := ⟨g, nn * 3, none⟩) (by show g < M; omega)).trans f0, (hw.cell (p := ⟨g, nn * 3 + 1, none⟩) (by show g < M; omega)).trans f1, (hw.cell (p := ⟨g, nn * 3 + 2, none⟩) (by show g < M; omega)).trans f2⟩)
  clear hb1 z1 CA f0 f1 f2 B1 hH s1'
  have HX := HH1.out
  have tg := TG.out
  go_wp2_with fail
  simp only [TQ.out]
  go_region_held3 (fun w' => Below H w1 w' ∧ w'.cell? ⟨M, 0, none⟩ = some (.string pred) ∧ w'.cell? ⟨M, 1, none⟩ = some (.slice (some ⟨g, 0, none⟩) ln c))
    (first | (with_reducible exact ⟨D1, F4.out _ D1⟩) | (with_reducible exact ⟨D2, F4.out _ D2⟩) | (with_reducible exact ⟨D3, F4.out _ D3⟩))
    (fail)
  clear p0 p1 p2 p3 p4 F4 D1 D2 D3 tg
  have hn0 := HN0.out
  have u1 : decide ((0 : Int) < (nn : Int)) = true := decide_eq_true (by omega)
  have u2 : decide (0 < nn) = true := decide_eq_true (by omega)
  have E0 : Hid ((s1 ++ ⟨#[44]⟩) ++ wrdS ag ++ ⟨#[60]⟩ ++ tx ++ ⟨#[62, 41]⟩ = ⟨(AB ++ oP 0).toArray⟩) := Lib.hid (by rw [OZ.out, List.append_nil, ← ABE.out, ABX.out, if_neg hn0, S1E.out]; apply ByteArray.ext; simp [bs])
  have hss : ((s1 ++ ⟨#[44]⟩) ++ wrdS ag ++ ⟨#[60]⟩ ++ tx ++ ⟨#[62, 41]⟩).size ≤ 60000 := by rw [E0.out, size_lit, OZ.out, List.append_nil]; have := HAB.out; omega
  have hs1 : s1.size ≤ 60000 := by simp only [ByteArray.size_append] at hss; omega
  have hwz := wrdS_size ag h5
  clear hn0
  go_wp2_with fail
  refine CL.out.mono ?_
  clear CL
  generalize World.alloc w1 _ = W2 at *
  rintro e w4 ⟨rfl, hb4⟩
  have B4 : Hid (Below M w w4) := Lib.hid (B2.out.trans (hb4.mono (by rw [SW2.out]; omega)))
  have S4 : Hid (M < w4.heap.size) := Lib.hid (by have := hb4.size; rw [SW2.out] at this; omega)
  have B4h : Hid (Below H w1 w4) := Lib.hid (B2h.out.trans (hb4.mono (by rw [SW2.out]; omega)))
  have FF : Hid (∀ w', Below w4.heap.size w4 w' → w'.cell? ⟨M, 1, none⟩ = some (.slice (some ⟨g, 0, none⟩) ln c) ∧ w'.cell? ⟨M, 2, none⟩ = some (.int .i64 (ag : Nat)) ∧ w'.cell? ⟨g, nn * 3, none⟩ = some (.int .i64 x1) ∧ w'.cell? ⟨g, nn * 3 + 1, none⟩ = some (.string x2) ∧ w'.cell? ⟨g, nn * 3 + 2, none⟩ = some (.int .i64 x3)) := Lib.hid (fun v h => F2.out v ((hb4.trans (h.mono hb4.size))))
  have CW : Hid (∀ v, Below w4.heap.size w4 v → Calls Tryd.prog 49 #[.int .i64 (ag : Nat)] v fun e w' => e = .returned (.string (wrdS ag)) ∧ v = w') := Lib.hid (fun v h => aggWord_calls ag h5 v (HS.out.on h6 (B4.out.trans (h.mono (Nat.le_of_lt S4.out)))))
  have CT : Hid (∀ v, Below w4.heap.size w4 v → Calls Tryd.prog 13 #[.agg #[.int .i64 x1, .string x2, .int .i64 x3]] v (StrRet v tx)) := Lib.hid (fun v h => CT0.out v (HS.out.on h6 (B4.out.trans (h.mono (Nat.le_of_lt S4.out)))))
  have D4x : M < w4.heap.size := S4.out
  clear hb4 F2
  have xe := XE1.out
  have xe2 := XE2.out
  go_wp2_with fail
  clear xe xe2
  have D4 : Below w4.heap.size w4 w4.drew := (Below.refl _ _).drew
  have A1 : ∀ W, (Op.stringOp .add (s1 ++ ⟨#[44]⟩) (wrdS ag)).run Tryd.prog W = .ok (.string ((s1 ++ ⟨#[44]⟩) ++ wrdS ag)) W := fun W => run_string_add_sum W _ _ (by simp only [ByteArray.size_append] at hss ⊢; omega)
  have A2 : ∀ W, (Op.stringOp .add ((s1 ++ ⟨#[44]⟩) ++ wrdS ag) ⟨#[60]⟩).run Tryd.prog W = .ok (.string ((s1 ++ ⟨#[44]⟩) ++ wrdS ag ++ ⟨#[60]⟩)) W := fun W => run_string_add_sum W _ _ (by simp only [ByteArray.size_append] at hss ⊢; omega)
  have A3 : ∀ W, (Op.stringOp .add ((s1 ++ ⟨#[44]⟩) ++ wrdS ag ++ ⟨#[60]⟩) tx).run Tryd.prog W = .ok (.string ((s1 ++ ⟨#[44]⟩) ++ wrdS ag ++ ⟨#[60]⟩ ++ tx)) W := fun W => run_string_add_sum W _ _ (by simp only [ByteArray.size_append] at hss ⊢; omega)
  have A4 : ∀ W, (Op.stringOp .add ((s1 ++ ⟨#[44]⟩) ++ wrdS ag ++ ⟨#[60]⟩ ++ tx) ⟨#[62, 41]⟩).run Tryd.prog W = .ok (.string ((s1 ++ ⟨#[44]⟩) ++ wrdS ag ++ ⟨#[60]⟩ ++ tx ++ ⟨#[62, 41]⟩)) W := fun W => run_string_add_sum W _ _ (by simp only [ByteArray.size_append] at hss ⊢; omega)
  clear hss hs1 hwz
  generalize (s1 ++ ⟨#[44]⟩) ++ wrdS ag ++ ⟨#[60]⟩ ++ tx ++ ⟨#[62, 41]⟩ = r4 at *
  generalize (s1 ++ ⟨#[44]⟩) ++ wrdS ag ++ ⟨#[60]⟩ ++ tx = r3 at *
  generalize (s1 ++ ⟨#[44]⟩) ++ wrdS ag ++ ⟨#[60]⟩ = r2 at *
  generalize (s1 ++ ⟨#[44]⟩) ++ wrdS ag = r1 at *
  go_region_held3 (fun w' => Below w4.heap.size w4 w' ∧ w'.cell? ⟨M, 1, none⟩ = some (.slice (some ⟨g, 0, none⟩) ln c) ∧ w'.cell? ⟨M, 2, none⟩ = some (.int .i64 (ag : Nat)) ∧ w'.cell? ⟨g, nn * 3, none⟩ = some (.int .i64 x1) ∧ w'.cell? ⟨g, nn * 3 + 1, none⟩ = some (.string x2) ∧ w'.cell? ⟨g, nn * 3 + 2, none⟩ = some (.int .i64 x3))
    (first | (with_reducible exact wrS FF.out D4) | (with_reducible exact wrC FF.out ‹Below w4.heap.size w4 _ ∧ _ ∧ _ ∧ _ ∧ _ ∧ _› ‹Below _ _ _›) | (with_reducible exact ‹Below w4.heap.size w4 _ ∧ _ ∧ _ ∧ _ ∧ _ ∧ _›))
    (first
      | (go_at_call 49; (with_reducible refine (CW.out _ (And.left ‹Below w4.heap.size w4 _ ∧ _ ∧ _ ∧ _ ∧ _ ∧ _›)).mono ?_); rintro e wk ⟨rfl, rfl⟩)
      | (go_at_call 13; (with_reducible refine (CT.out _ (And.left ‹Below w4.heap.size w4 _ ∧ _ ∧ _ ∧ _ ∧ _ ∧ _›)).mono ?_); rintro e w5 ⟨rfl, hb5⟩))
  have BS : Hid (Below M w w5) := Lib.hid (B4.out.drew.trans (hb5.mono (Nat.le_of_lt S4.out)))
  have SS : Hid (M < w5.heap.size) := Lib.hid (Nat.lt_of_lt_of_le S4.out hb5.size)
  have z5 := ((B4h.out.drew.trans (hb5.mono (by have := B4h.out.size; have := HH1.out; show H ≤ w4.heap.size; omega))).block M hMH).trans Y1.out
  obtain ⟨p0, p1, p2, p3, p4⟩ := cells5 z5
  clear hb5 z5 D4 A1 A2 A3 A4
  go_wp2_with fail
  clear p0 p1 p2 p3 p4
  go_loopw [3, 57] (fun v i wr => ∃ (k : Nat) (s : ByteArray), k ≤ n ∧ i = .int .i64 k ∧ v = .string s ∧ Hid (s = ⟨(AB ++ oP k).toArray⟩) ∧ Hid (Below M w wr) ∧ Hid (M < wr.heap.size)) (fun _ i _ => n - (intOf i).toNat)
  case atStart => exact ⟨0, _, Nat.zero_le _, rfl, rfl, E0, BS, SS⟩
  case round =>
    obtain ⟨k, s, hk, rfl, rfl, HV, HBe, HSz⟩ := hrel
    have hol := OL.out k hk
    have hsz : s.size ≤ 700000 := by rw [HV.out, size_lit]; have := HAB.out; simp only [List.length_append]; omega
    by_cases hlt : k < n
    · have hlT : k < ps.length := by rw [HN.out]; exact hlt
      obtain ⟨g, v0, v1, v2, v3, v4, v5, v6, v7, v8, v9, v10, v11, v12, v13, v14, v15, hadr, hpv, f0, f1, f2, f3, f4, f5, f6, f7, f8, f9, f10, f11, f12, f13, f14, f15⟩ := HP.out.at (HBe.out.mono (by rw [← HM.out]; exact hN)) hlT
      have OSk := Lib.hid (OS.out k)
      have hpt := partT_size hpv
      obtain ⟨j0, j1, j2, l2, m2, j3, j4, j5, j6, j7, j8, j9, j10, j11, j12, j13, j14, j15, l15, m15, rfl, rfl, rfl, rfl, rfl, rfl, rfl, rfl, rfl, rfl, rfl, rfl, rfl, rfl, rfl, rfl⟩ := pt_shape hpv
      have B3 : Hid (Below M w (wr.alloc (.cells #[.int .i64 j0, .string j1, .slice j2 l2 m2, .int .i64 j3, .int .i64 j4, .string j5, .int .i64 j6, .int .i64 j7, .string j8, .int .i64 j9, .string j10, .int .i64 j11, .string j12, .int .i64 j13, .int .i64 j14, .slice j15 l15 m15] 59))) := Lib.hid (HBe.out.alloc (Nat.le_of_lt HSz.out) _)
      have S3 : Hid (M < (wr.alloc (.cells #[.int .i64 j0, .string j1, .slice j2 l2 m2, .int .i64 j3, .int .i64 j4, .string j5, .int .i64 j6, .int .i64 j7, .string j8, .int .i64 j9, .string j10, .int .i64 j11, .string j12, .int .i64 j13, .int .i64 j14, .slice j15 l15 m15] 59)).heap.size) := Lib.hid (by have := HSz.out; simp; omega)
      have C19 := Lib.hid (lawPart_calls (hpv.on (w' := wr.alloc (.cells #[.int .i64 j0, .string j1, .slice j2 l2 m2, .int .i64 j3, .int .i64 j4, .string j5, .int .i64 j6, .int .i64 j7, .string j8, .int .i64 j9, .string j10, .int .i64 j11, .string j12, .int .i64 j13, .int .i64 j14, .slice j15 l15 m15] 59)) (((Below.refl wr.heap.size wr).alloc (Nat.le_refl _) _).mono (by have := HSz.out; have := HM.out; omega))) (by have := HSz.out; have := HM.out; simp; omega) (HS.out.on h6 B3.out))
      generalize ptAt ps k = pt at *
      generalize partT pt = tt at *
      subst hadr
      clear hpv hol
      by_cases hk0 : k = 0
      · have t1 : ((k : Int) == 0) = true := by rw [hk0]; rfl
        have t2 : (k == 0) = true := by rw [hk0]; rfl
        have ES : Hid (s ++ ⟨#[32, 58, 45, 32]⟩ ++ tt = ⟨(AB ++ oP (k + 1)).toArray⟩) := Lib.hid (by rw [HV.out, OSk.out, if_pos hk0]; apply ByteArray.ext; simp [bs])
        clear hk0
        go_wp2_with fail
        refine C19.out.mono ?_
        generalize World.alloc wr _ = W3 at *
        rintro e w5 ⟨rfl, hb5⟩
        have B5 : Hid (Below M w w5) := Lib.hid (B3.out.trans (hb5.mono (Nat.le_of_lt S3.out)))
        have S5 : Hid (M < w5.heap.size) := Lib.hid (Nat.lt_of_lt_of_le S3.out hb5.size)
        clear hb5 f0 f1 f2 f3 f4 f5 f6 f7 f8 f9 f10 f11 f12 f13 f14 f15
        go_wp2_with fail
        go_roundw
        case rel => exact ⟨k + 1, s ++ ⟨#[32, 58, 45, 32]⟩ ++ tt, by omega, by go_num, rfl, ES, B5, S5⟩
        case measure => simp [intOf]; omega
      · have t1 : ((k : Int) == 0) = false := beq_eq_false_iff_ne.2 (by omega)
        have t2 : (k == 0) = false := beq_eq_false_iff_ne.2 hk0
        have ES : Hid (s ++ ⟨#[44, 32]⟩ ++ tt = ⟨(AB ++ oP (k + 1)).toArray⟩) := Lib.hid (by rw [HV.out, OSk.out, if_neg hk0]; apply ByteArray.ext; simp [bs])
        clear hk0
        go_wp2_with fail
        refine C19.out.mono ?_
        generalize World.alloc wr _ = W3 at *
        rintro e w5 ⟨rfl, hb5⟩
        have B5 : Hid (Below M w w5) := Lib.hid (B3.out.trans (hb5.mono (Nat.le_of_lt S3.out)))
        have S5 : Hid (M < w5.heap.size) := Lib.hid (Nat.lt_of_lt_of_le S3.out hb5.size)
        clear hb5 f0 f1 f2 f3 f4 f5 f6 f7 f8 f9 f10 f11 f12 f13 f14 f15
        go_wp2_with fail
        go_roundw
        case rel => exact ⟨k + 1, s ++ ⟨#[44, 32]⟩ ++ tt, by omega, by go_num, rfl, ES, B5, S5⟩
        case measure => simp [intOf]; omega
    · obtain rfl : k = n := by omega
      have FS : Hid (s ++ ⟨#[46]⟩ = fT) := Lib.hid (by rw [HV.out, FT.out]; apply ByteArray.ext; simp)
      go_wp2_with fail
      go_ret
      exact ⟨ret_s FS.out, by rw [HM.out]; exact HBe.out⟩
end Go.Proofs.YtaglbeokecbihaaDoor
