/- The law's Write: a rule as it is written. Written by mkszq.py. -/
import Derived.Test.YtaglbeokecbihaaDoorSyV
import Derived.Deep.RegionHeld3
namespace Go.Proofs.YtaglbeokecbihaaDoor
open Go.RowKit
set_option linter.unusedVariables false
set_option linter.unusedSimpArgs false

theorem tmAt_take {l : List Tm} {n k : Nat} (h : k < n) : tmAt (l.take n) k = tmAt l k := by simp only [tmAt]; rw [List.getElem?_take_of_lt h]
theorem outA_take (ag : Nat) {l : List Tm} {n : Nat} (hn : l.length = n + 1) : ∀ k, k ≤ n → outA ag l k = outA 0 (l.take n) k
  | 0, _ => rfl
  | k + 1, hk => by
    have h1 : itemT ag l.length k (tmAt l k) = itemT 0 (l.take n).length k (tmAt (l.take n) k) := by
      rw [tmAt_take (by omega)]
      unfold itemT
      rw [if_neg (by rw [hn]; omega), if_neg (by simp)]
    show outA ag l k ++ (if k = 0 then [] else [44]) ++ bs (itemT ag l.length k (tmAt l k)) = outA 0 (l.take n) k ++ (if k = 0 then [] else [44]) ++ bs (itemT 0 (l.take n).length k (tmAt (l.take n) k))
    rw [outA_take ag hn k (by omega), h1]
theorem atomB_agg {ag : Nat} (h0 : ag ≠ 0) (pred : ByteArray) {l : List Tm} {n : Nat} (hn : l.length = n + 1) : atomB ag pred l = bs pred ++ [40] ++ outA 0 (l.take n) n ++ (if n = 0 then [] else [44]) ++ (bs (wrdS ag) ++ [60] ++ bs (termT (tmAt l n))) ++ [62, 41] := by
  have hi : itemT ag (n + 1) n (tmAt l n) = wrdS ag ++ ⟨#[60]⟩ ++ termT (tmAt l n) ++ ⟨#[62]⟩ := by unfold itemT; rw [if_pos ⟨h0, rfl⟩]
  unfold atomB
  rw [hn]
  show bs pred ++ [40] ++ (outA ag l n ++ (if n = 0 then [] else [44]) ++ bs (itemT ag l.length n (tmAt l n))) ++ [41] = _
  rw [outA_take ag hn n (Nat.le_refl _), hn, hi, bs_app, bs_app, bs_app]
  simp [bs]
theorem atom0_take (pred : ByteArray) {l : List Tm} {n : Nat} (hn : l.length = n + 1) : atomT 0 pred (l.take n) = ⟨(bs pred ++ [40] ++ outA 0 (l.take n) n).toArray⟩ ++ ⟨#[41]⟩ := by
  have : (l.take n).length = n := by rw [List.length_take]; omega
  apply ByteArray.ext
  simp [atomT, atomB, this]
theorem extract_pre (a b : ByteArray) : (a ++ b).extract 0 a.size = a := by
  apply ByteArray.ext
  simp
theorem tmrow_take {N : Nat} {w : World} {a : Option Addr} {l : List Tm} (h : TmRow N w a l) (n : Nat) : TmRow N w a (l.take n) := by
  refine ⟨fun t ht => h.1 t (List.mem_of_mem_take ht), ?_⟩
  rcases h.2 with h0 | ⟨g, ha, hg, hc⟩
  · exact .inl (by rw [h0]; simp)
  · refine .inr ⟨g, ha, hg, fun i hi => ?_⟩
    rw [List.length_take] at hi
    rw [tmAt_take (by omega)]
    exact hc i (by omega)
set_option maxRecDepth 100000 in
set_option maxHeartbeats 4000000 in
theorem write_no  (pred : ByteArray) (a : Option Addr) (l : List Tm) (c : Nat) (ba : Option Addr) (ps : List Pt) (bc : Nat) (at9 : Int) (N : Nat) (w : World) (hN : N ≤ w.heap.size) (hr : TmRow N w a l) (hps : PtRow N w ba ps) (hs : STab w) (hp : pred.size ≤ 100) (hn : l.length ≤ 1000) (hpl : ps.length ≤ 10) : Calls Tryd.prog 34 #[.agg #[.string pred, .slice a l.length c, .int .i64 0, .slice ba ps.length bc, .int .i64 at9]] w (StrRet w ⟨(ruleB 0 pred l ps).toArray⟩) := by
  have OL := Lib.hid (outP_len hps)
  obtain ⟨M, hM⟩ : ∃ M, w.heap.size = M := ⟨_, rfl⟩
  have HM := Lib.hid hM
  have h6 : 6 ≤ M := by have := hs.sz; omega
  obtain ⟨n, hnn⟩ : ∃ n, ps.length = n := ⟨_, rfl⟩
  obtain ⟨ln, hln⟩ : ∃ ln, l.length = ln := ⟨_, rfl⟩
  have HN := Lib.hid hnn
  have HLN := Lib.hid hln
  have HP := Lib.hid hps
  have HR := Lib.hid hr
  have HS := Lib.hid hs
  have OS := Lib.hid (fun k => show outP ps (k + 1) = outP ps k ++ (if k = 0 then [32, 58, 45, 32] else [44, 32]) ++ bs (partT (ptAt ps k)) from rfl)
  have OZ : Hid (outP ps 0 = []) := Lib.hid rfl
  obtain ⟨AB, hab⟩ : ∃ AB, atomB 0 pred l = AB := ⟨_, rfl⟩
  have ABE := Lib.hid hab
  have HAB : Hid (AB.length ≤ 51000) := Lib.hid (by have := atom_size hr.1 (show 0 < 5 by omega) hp hn; rw [← hab]; rw [atomT, size_lit] at this; exact this)
  have FT : Hid ((⟨(ruleB 0 pred l ps).toArray⟩ : ByteArray) = ⟨(AB ++ outP ps n ++ [46]).toArray⟩) := Lib.hid (by unfold ruleB; rw [hab, hnn])
  have B0 : Hid (Below M w (w.alloc (.cells #[.string pred, .slice a ln c, .int .i64 0, .slice ba n bc, .int .i64 at9] 71))) := Lib.hid ((Below.refl M w).alloc (by omega) _)
  have Y0 : Hid ((w.alloc (.cells #[.string pred, .slice a ln c, .int .i64 0, .slice ba n bc, .int .i64 at9] 71)).heap[M]? = some (.cells #[.string pred, .slice a ln c, .int .i64 0, .slice ba n bc, .int .i64 at9] 71 (0, 0))) := Lib.hid (by rw [← hM]; exact box16 w _ _)
  have S0 : Hid ((w.alloc (.cells #[.string pred, .slice a ln c, .int .i64 0, .slice ba n bc, .int .i64 at9] 71)).heap.size = M + 1) := Lib.hid (by simp [hM])
  have CA := Lib.hid (lawAtom_calls pred a l c N (w.alloc (.cells #[.string pred, .slice a ln c, .int .i64 0, .slice ba n bc, .int .i64 at9] 71)) (by rw [S0.out]; omega) (hr.on (B0.out.mono (by omega))) (hs.on h6 B0.out) hp hn)
  rw [hnn] at OL hpl ⊢
  rw [hln] at CA hn ⊢
  have A0 : Hid (atomT 0 pred l = ⟨(AB ++ outP ps 0).toArray⟩) := Lib.hid (by rw [OZ.out, List.append_nil, ← hab]; rfl)
  clear hr hps hs hM hnn hln hab
  generalize outP ps = oP at *
  generalize atomT 0 pred l = a0 at *
  generalize (⟨(ruleB 0 pred l ps).toArray⟩ : ByteArray) = fT at *
  have MX := HM.out
  go_enter Tryd.func34, Tryd.ntmps34
  go_wp2_with fail
  refine CA.out.mono ?_
  generalize World.alloc w _ = W0 at *
  rintro e w1 ⟨rfl, hb1⟩
  have BS : Hid (Below M w w1) := Lib.hid (B0.out.trans (hb1.mono (by rw [S0.out]; omega)))
  have SS : Hid (M < w1.heap.size) := Lib.hid (by have := hb1.size; rw [S0.out] at this; exact this)
  have z1 := (hb1.block M (by rw [S0.out]; omega)).trans Y0.out
  have E0 := A0
  obtain ⟨p0, p1, p2, p3, p4⟩ := cells5 z1
  clear hb1 z1 CA
  go_wp2_with fail
  clear p0 p1 p2 p3 p4
  go_loopw [3, 57] (fun v i wr => ∃ (k : Nat) (s : ByteArray), k ≤ n ∧ i = .int .i64 k ∧ v = .string s ∧ Hid (s = ⟨(AB ++ oP k).toArray⟩) ∧ Hid (Below M w wr) ∧ Hid (M < wr.heap.size)) (fun _ i _ => n - (intOf i).toNat)
  case atStart => exact ⟨0, _, Nat.zero_le _, rfl, rfl, E0, BS, SS⟩
  case round =>
    obtain ⟨k, s, hk, rfl, rfl, HV, HBe, HSz⟩ := hrel
    have hol := OL.out k hk
    have hsz : s.size ≤ 700000 := by rw [HV.out, size_lit]; have := HAB.out; simp only [List.length_append]; omega
    by_cases hlt : k < n
    · have hlT : k < ps.length := by rw [HN.out]; exact hlt
      obtain ⟨g, v0, v1, v2, v3, v4, v5, v6, v7, v8, v9, v10, v11, v12, v13, v14, v15, hadr, hpv, f0, f1, f2, f3, f4, f5, f6, f7, f8, f9, f10, f11, f12, f13, f14, f15⟩ := HP.out.at (HBe.out.mono (by rw [← HM.out]; exact hN)) hlT
      have OSk := Lib.hid (OS.out k)
      have hpt := partT_size hpv
      obtain ⟨j0, j1, j2, l2, m2, j3, j4, j5, j6, j7, j8, j9, j10, j11, j12, j13, j14, j15, l15, m15, rfl, rfl, rfl, rfl, rfl, rfl, rfl, rfl, rfl, rfl, rfl, rfl, rfl, rfl, rfl, rfl⟩ := pt_shape hpv
      have B3 : Hid (Below M w (wr.alloc (.cells #[.int .i64 j0, .string j1, .slice j2 l2 m2, .int .i64 j3, .int .i64 j4, .string j5, .int .i64 j6, .int .i64 j7, .string j8, .int .i64 j9, .string j10, .int .i64 j11, .string j12, .int .i64 j13, .int .i64 j14, .slice j15 l15 m15] 59))) := Lib.hid (HBe.out.alloc (Nat.le_of_lt HSz.out) _)
      have S3 : Hid (M < (wr.alloc (.cells #[.int .i64 j0, .string j1, .slice j2 l2 m2, .int .i64 j3, .int .i64 j4, .string j5, .int .i64 j6, .int .i64 j7, .string j8, .int .i64 j9, .string j10, .int .i64 j11, .string j12, .int .i64 j13, .int .i64 j14, .slice j15 l15 m15] 59)).heap.size) := Lib.hid (by have := HSz.out; simp; omega)
      have C19 := Lib.hid (lawPart_calls (hpv.on (w' := wr.alloc (.cells #[.int .i64 j0, .string j1, .slice j2 l2 m2, .int .i64 j3, .int .i64 j4, .string j5, .int .i64 j6, .int .i64 j7, .string j8, .int .i64 j9, .string j10, .int .i64 j11, .string j12, .int .i64 j13, .int .i64 j14, .slice j15 l15 m15] 59)) (((Below.refl wr.heap.size wr).alloc (Nat.le_refl _) _).mono (by have := HSz.out; have := HM.out; omega))) (by have := HSz.out; have := HM.out; simp; omega) (HS.out.on h6 B3.out))
      generalize ptAt ps k = pt at *
      generalize partT pt = tt at *
      subst hadr
      clear hpv hol
      by_cases hk0 : k = 0
      · have t1 : ((k : Int) == 0) = true := by rw [hk0]; rfl
        have t2 : (k == 0) = true := by rw [hk0]; rfl
        have ES : Hid (s ++ ⟨#[32, 58, 45, 32]⟩ ++ tt = ⟨(AB ++ oP (k + 1)).toArray⟩) := Lib.hid (by rw [HV.out, OSk.out, if_pos hk0]; apply ByteArray.ext; simp [bs])
        clear hk0
        go_wp2_with fail
        refine C19.out.mono ?_
        generalize World.alloc wr _ = W3 at *
        rintro e w5 ⟨rfl, hb5⟩
        have B5 : Hid (Below M w w5) := Lib.hid (B3.out.trans (hb5.mono (Nat.le_of_lt S3.out)))
        have S5 : Hid (M < w5.heap.size) := Lib.hid (Nat.lt_of_lt_of_le S3.out hb5.size)
        clear hb5 f0 f1 f2 f3 f4 f5 f6 f7 f8 f9 f10 f11 f12 f13 f14 f15
        go_wp2_with fail
        go_roundw
        case rel => exact ⟨k + 1, s ++ ⟨#[32, 58, 45, 32]⟩ ++ tt, by omega, by go_num, rfl, ES, B5, S5⟩
        case measure => simp [intOf]; omega
      · have t1 : ((k : Int) == 0) = false := beq_eq_false_iff_ne.2 (by omega)
        have t2 : (k == 0) = false := beq_eq_false_iff_ne.2 hk0
        have ES : Hid (s ++ ⟨#[44, 32]⟩ ++ tt = ⟨(AB ++ oP (k + 1)).toArray⟩) := Lib.hid (by rw [HV.out, OSk.out, if_neg hk0]; apply ByteArray.ext; simp [bs])
        clear hk0
        go_wp2_with fail
        refine C19.out.mono ?_
        generalize World.alloc wr _ = W3 at *
        rintro e w5 ⟨rfl, hb5⟩
        have B5 : Hid (Below M w w5) := Lib.hid (B3.out.trans (hb5.mono (Nat.le_of_lt S3.out)))
        have S5 : Hid (M < w5.heap.size) := Lib.hid (Nat.lt_of_lt_of_le S3.out hb5.size)
        clear hb5 f0 f1 f2 f3 f4 f5 f6 f7 f8 f9 f10 f11 f12 f13 f14 f15
        go_wp2_with fail
        go_roundw
        case rel => exact ⟨k + 1, s ++ ⟨#[44, 32]⟩ ++ tt, by omega, by go_num, rfl, ES, B5, S5⟩
        case measure => simp [intOf]; omega
    · obtain rfl : k = n := by omega
      have FS : Hid (s ++ ⟨#[46]⟩ = fT) := Lib.hid (by rw [HV.out, FT.out]; apply ByteArray.ext; simp)
      go_wp2_with fail
      go_ret
      exact ⟨ret_s FS.out, by rw [HM.out]; exact HBe.out⟩
end Go.Proofs.YtaglbeokecbihaaDoor
