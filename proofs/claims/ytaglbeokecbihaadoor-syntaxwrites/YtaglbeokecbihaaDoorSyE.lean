/- Atoms with an aggregate, as they are written. Written by mksye.py. -/
import Derived.Test.YtaglbeokecbihaaDoorSy7
namespace Go.Proofs.YtaglbeokecbihaaDoor
open Go.RowKit
set_option linter.unusedVariables false
set_option linter.unusedSimpArgs false

set_option maxRecDepth 100000 in
set_option maxHeartbeats 4000000 in
theorem agg_calls (ag : Nat) (h0 : ag ≠ 0) (h5 : ag < 5) (pred : ByteArray) (a : Option Addr) (l : List Tm) (c : Nat) (N : Nat) (w : World) (hN : N ≤ w.heap.size) (hr : TmRow N w a l) (hs : STab w) (hp : pred.size ≤ 100) (hn : l.length ≤ 1000) : Calls Tryd.prog 42 #[.agg #[.string pred, .slice a l.length c], .int .i64 ag] w (StrRet w (atomT ag pred l)) := by
  have OL := Lib.hid (fun k hk => outA_len (agg := ag) hr.1 h5 k hk)
  have IT := Lib.hid (fun k (hk : k < l.length) => item_size (agg := ag) (n := l.length) (k := k) (hr.1 _ (tmAt_mem hk)) h5)
  obtain ⟨M, hM⟩ : ∃ M, w.heap.size = M := ⟨_, rfl⟩
  have HM := Lib.hid hM
  have h6 : 6 ≤ M := by have := hs.sz; omega
  have S1 : (w.alloc (.cells #[.string pred, .slice a l.length c] 49)).heap.size = M + 1 := by simp [hM]
  have D0 := Lib.hid (bld_new (w.alloc (.cells #[.string pred, .slice a l.length c] 49)) S1)
  have B0 : Hid (Below M w ((w.alloc (.cells #[.string pred, .slice a l.length c] 49)).alloc (.cells #[.pointer none, .slice none 0 0] 93))) := Lib.hid (by rw [← hM]; exact below2 w _ _)
  have Y0 : Hid (((w.alloc (.cells #[.string pred, .slice a l.length c] 49)).alloc (.cells #[.pointer none, .slice none 0 0] 93)).heap[M]? = some (.cells #[.string pred, .slice a l.length c] 49 (0, 0))) := Lib.hid (by rw [← hM]; exact (((Below.refl _ _).alloc (Nat.le_refl _) _).block _ (by simp)).trans (box2 w _ _ 49))
  have HR := Lib.hid hr
  have HS := Lib.hid hs
  have FT : Hid (atomT ag pred l = ⟨(bs pred ++ [40] ++ outA ag l l.length ++ [41]).toArray⟩) := Lib.hid rfl
  have OS := Lib.hid (fun k => show outA ag l (k + 1) = outA ag l k ++ (if k = 0 then [] else [44]) ++ bs (itemT ag l.length k (tmAt l k)) from rfl)
  have OZ : Hid (outA ag l 0 = []) := Lib.hid rfl
  have hpl : (bs pred).length ≤ 100 := by rw [bs_len]; exact hp
  clear hr hs S1 hM
  obtain ⟨n, hnn⟩ : ∃ n, l.length = n := ⟨_, rfl⟩
  have HN := Lib.hid hnn
  rw [hnn] at OL IT Y0 FT OS hn D0 B0 ⊢
  clear hnn
  generalize outA ag l = oA at *
  generalize atomT ag pred l = fT at *
  have MX := HM.out
  have ta : ((ag : Int) == 0) = false := beq_eq_false_iff_ne.2 (by omega)
  have CW : Hid (∀ v, STab v → Calls Tryd.prog 49 #[.int .i64 ag] v fun e w' => e = .returned (.string (wrdS ag)) ∧ v = w') := Lib.hid (fun v h => aggWord_calls ag h5 v h)
  have hws := wrdS_size ag h5
  go_enter Tryd.func42, Tryd.ntmps42
  go_wp2_with fail
  refine (D0.out.ws pred (by simp) (by omega)).mono ?_
  generalize World.alloc (World.alloc w _) _ = W0 at *
  rintro e w1 ⟨rfl, hb1, hk1⟩
  rw [List.nil_append] at hb1
  have c1 := hb1.wb 40 (by omega)
  have B1 : Hid (Below M w w1) := Lib.hid (B0.out.trans (hk1.bel.mono (by omega)))
  have z1 := (hk1.bel.block M (by omega)).trans Y0.out
  obtain ⟨p0, p1⟩ := cells2 z1
  have Y1 := Lib.hid z1
  clear hb1 hk1 z1
  go_wp2_with fail
  refine c1.mono ?_
  rintro e w2 ⟨rfl, hb2, hk2⟩
  have B2 : Hid (Below M w w2) := Lib.hid (B1.out.trans (hk2.bel.mono (by omega)))
  have z2 := (hk2.bel.block M (by omega)).trans Y1.out
  have Y2 := Lib.hid z2
  have D2 : Hid (Bld (M + 1) (bs pred ++ [40] ++ oA 0) w2) := Lib.hid (by rw [OZ.out, List.append_nil]; exact hb2)
  clear p0 p1 hb2 hk2 c1
  obtain ⟨p0, p1⟩ := cells2 z2
  clear z2
  go_wp2_with fail
  clear p0 p1
  go_loopw [15] (fun i wr => ∃ k : Nat, k ≤ n ∧ i = .int .i64 k ∧ Hid (Bld (M + 1) (bs pred ++ [40] ++ oA k) wr) ∧ Hid (Below (M + 1) w2 wr)) (fun i _ => n - (intOf i).toNat)
  case atStart => exact ⟨0, Nat.zero_le _, rfl, D2, Lib.hid (Below.refl _ _)⟩
  case round =>
    obtain ⟨k, hk, rfl, HD, HBe⟩ := hrel
    have BW : Hid (Below M w wr) := Lib.hid (B2.out.trans (HBe.out.mono (by omega)))
    have zr := (HBe.out.block M (by omega)).trans Y2.out
    obtain ⟨p0, p1⟩ := cells2 zr
    have YR := Lib.hid zr
    have hol := OL.out k hk
    have hml : (bs pred ++ [40] ++ oA k).length ≤ 50200 := by simp only [List.length_append, List.length_cons, List.length_nil]; omega
    have SW : Hid (M + 1 < wr.heap.size) := Lib.hid HD.out.s
    clear zr
    by_cases hlt : k < n
    · have hlT : k < l.length := by rw [HN.out]; exact hlt
      obtain ⟨g, hadr, hg, f0, f1, f2⟩ := (HR.out.on (BW.out.mono (by rw [← HM.out]; exact hN))).at hlT
      have OSk := Lib.hid (OS.out k)
      have hit := IT.out k hlt
      have hok := HR.out.1 _ (tmAt_mem hlT)
      have CT : Hid (∀ W, STab W → Calls Tryd.prog 12 #[.agg #[.int .i64 (tmAt l k).kind, .string (tmAt l k).text, .int .i64 (tmAt l k).n]] W (StrRet W (termT (tmAt l k)))) := Lib.hid (fun W h => termString_calls _ hok W h)
      have hts := termT_size hok
      generalize tmAt l k = t at *
      subst hadr
      have IE : Hid (itemT ag n k t = if ag ≠ 0 ∧ k + 1 = n then wrdS ag ++ ⟨#[60]⟩ ++ termT t ++ ⟨#[62]⟩ else termT t) := Lib.hid rfl
      generalize itemT ag n k t = it at *
      generalize termT t = tt at *
      generalize t.kind = x1 at *
      generalize t.text = x2 at *
      generalize t.n = x3 at *
      clear hok hol
      obtain ⟨m, hm⟩ : ∃ m, wr.heap.size = m := ⟨_, rfl⟩
      have Hm := Lib.hid hm
      have K1 : Hid (Kp (M + 1) wr (wr.alloc (.cells #[.int .i64 x1, .string x2, .int .i64 x3] 44))) := Lib.hid (Kp.of (Nat.le_of_lt SW.out) ((Below.refl _ _).alloc (Nat.le_refl _) _))
      have D3 := Lib.hid (HD.out.below ((Below.refl _ _).alloc (Nat.le_refl _) (.cells #[.int .i64 x1, .string x2, .int .i64 x3] 44)))
      have Y3 := Lib.hid (box3 wr (.int .i64 x1) (.string x2) (.int .i64 x3) 44)
      rw [hm] at Y3 SW
      have smB : Hid (M + 1 < m) := SW
      clear hm
      by_cases hlast : k + 1 = n
      · by_cases hk0 : k = 0
        · have t1 : decide ((0 : Int) < (k : Int)) = false := decide_eq_false (by omega)
          have t2 : decide (0 < k) = false := decide_eq_false (by omega)
          have wn : IntKind.i64.wrap ((n : Int) - 1) = (n : Int) - 1 := by rw [IntKind.wrap_i64]; omega
          have t3 : ((k : Int) == (n : Int) - 1) = true := by rw [beq_iff_eq]; omega
          have ES : Hid (bs pred ++ [40] ++ oA k ++ bs (wrdS ag ++ ⟨#[60]⟩ ++ tt ++ ⟨#[62]⟩) = bs pred ++ [40] ++ oA (k + 1)) := Lib.hid (by rw [OSk.out, if_pos hk0, IE.out, if_pos ⟨h0, hlast⟩]; simp)
          generalize bs pred ++ [40] ++ oA k = acc at *
          clear hk0
          have MXm := Hm.out
          have hsm := smB.out
          have nk : (n : Int) - 1 = (k : Int) := by omega
          obtain ⟨q0, q1, q2, _⟩ := cells3 Y3.out
          have T3 : Hid (STab (wr.alloc (.cells #[.int .i64 x1, .string x2, .int .i64 x3] 44))) := Lib.hid (HS.out.on h6 (BW.out.trans (K1.out.bel.mono (by omega))))
          have z5 := (K1.out.bel.block M (by omega)).trans YR.out
          clear p0 p1
          obtain ⟨p0, p1⟩ := cells2 z5
          clear z5
          have K4 := K1
          have D4 := D3
          have T4 := T3
          have A4 : acc.length ≤ 50200 := hml
          go_wp2_with fail
          generalize World.alloc wr _ = w4 at *
          have T4d : STab w4.drew := T4.out.on T4.out.sz (Below.drew (Below.refl _ _))
          have A1 : ∀ W, (Op.stringOp .add (wrdS ag) ⟨#[60]⟩).run Tryd.prog W = .ok (.string (wrdS ag ++ ⟨#[60]⟩)) W := fun W => run_string_add_sum W _ _ (by show (wrdS ag).size + 1 ≤ _; omega)
          have A2 : ∀ W, (Op.stringOp .add (wrdS ag ++ ⟨#[60]⟩) tt).run Tryd.prog W = .ok (.string (wrdS ag ++ ⟨#[60]⟩ ++ tt)) W := fun W => run_string_add_sum W _ _ (by rw [ByteArray.size_append]; show (wrdS ag).size + 1 + _ ≤ _; omega)
          have A3 : ∀ W, (Op.stringOp .add (wrdS ag ++ ⟨#[60]⟩ ++ tt) ⟨#[62]⟩).run Tryd.prog W = .ok (.string (wrdS ag ++ ⟨#[60]⟩ ++ tt ++ ⟨#[62]⟩)) W := fun W => run_string_add_sum W _ _ (by rw [ByteArray.size_append, ByteArray.size_append]; show (wrdS ag).size + 1 + _ + 1 ≤ _; omega)
          have hr3 : (wrdS ag ++ ⟨#[60]⟩ ++ tt ++ ⟨#[62]⟩).size ≤ 100 := by rw [ByteArray.size_append, ByteArray.size_append, ByteArray.size_append]; show (wrdS ag).size + 1 + _ + 1 ≤ _; omega
          generalize wrdS ag ++ ⟨#[60]⟩ ++ tt ++ ⟨#[62]⟩ = r3 at *
          generalize wrdS ag ++ ⟨#[60]⟩ ++ tt = r2 at *
          generalize wrdS ag ++ ⟨#[60]⟩ = r1 at *
          go_region_with (first
            | (go_at_call 49; (with_reducible refine (CW.out _ T4d).mono ?_); rintro e wk ⟨rfl, rfl⟩)
            | (go_at_call 12; (with_reducible refine (CT.out _ T4d).mono ?_); rintro e w5 ⟨rfl, hb5⟩; have D5 := Lib.hid (D4.out.below (Below.trans (Below.drew (Below.refl _ _)) hb5)); have K5 : Hid (Kp (M + 1) wr w5) := Lib.hid (K4.out.add (by have := D4.out.s; omega) (Below.trans (Below.drew (Below.refl _ _)) hb5)))
            | (go_at_call 35; (with_reducible refine (D5.out.ws _ (by omega) (by omega)).mono ?_); rintro e w6 ⟨rfl, hb6, hk6⟩))
          all_goals
            clear A1 A2 A3 p0 p1 q0 q1 q2
            rw [ES.out] at hb6
            have D6 := Lib.hid hb6
            have B6 : Hid (Below (M + 1) w2 w6) := Lib.hid (HBe.out.trans (K5.out.trans hk6).bel)
            clear hb6 hk6
            go_wp2_with fail
            go_roundw
            case rel => exact ⟨k + 1, by omega, by go_num, D6, B6⟩
            case measure => simp [intOf]; omega
        · have t1 : decide ((0 : Int) < (k : Int)) = true := decide_eq_true (by omega)
          have t2 : decide (0 < k) = true := decide_eq_true (by omega)
          have wn : IntKind.i64.wrap ((n : Int) - 1) = (n : Int) - 1 := by rw [IntKind.wrap_i64]; omega
          have t3 : ((k : Int) == (n : Int) - 1) = true := by rw [beq_iff_eq]; omega
          have ES : Hid (bs pred ++ [40] ++ oA k ++ [44] ++ bs (wrdS ag ++ ⟨#[60]⟩ ++ tt ++ ⟨#[62]⟩) = bs pred ++ [40] ++ oA (k + 1)) := Lib.hid (by rw [OSk.out, if_neg hk0, IE.out, if_pos ⟨h0, hlast⟩]; simp)
          generalize bs pred ++ [40] ++ oA k = acc at *
          clear hk0
          have MXm := Hm.out
          have hsm := smB.out
          have nk : (n : Int) - 1 = (k : Int) := by omega
          go_wp2_with fail
          refine (D3.out.wb 44 (by omega)).mono ?_
          generalize World.alloc wr _ = W3 at *
          rintro e w4 ⟨rfl, hb4, hk4⟩
          have K4 : Hid (Kp (M + 1) wr w4) := Lib.hid (K1.out.trans hk4)
          have D4 := Lib.hid hb4
          have z4 := hk4.box Y3.out (by omega) (by decide)
          clear p0 p1 f0 f1 f2
          obtain ⟨q0, q1, q2, _⟩ := cells3 z4
          have z5 := (K4.out.bel.block M (by omega)).trans YR.out
          clear hb4 hk4 z4
          obtain ⟨p0, p1⟩ := cells2 z5
          clear z5
          have T4 : Hid (STab w4) := Lib.hid (HS.out.on h6 (BW.out.trans (K4.out.bel.mono (by omega))))
          have A4 : (acc ++ [44]).length ≤ 50201 := by rw [List.length_append]; show acc.length + 1 ≤ _; omega
          generalize acc ++ [44] = ac4 at *
          go_wp2_with fail
          have T4d : STab w4.drew := T4.out.on T4.out.sz (Below.drew (Below.refl _ _))
          have A1 : ∀ W, (Op.stringOp .add (wrdS ag) ⟨#[60]⟩).run Tryd.prog W = .ok (.string (wrdS ag ++ ⟨#[60]⟩)) W := fun W => run_string_add_sum W _ _ (by show (wrdS ag).size + 1 ≤ _; omega)
          have A2 : ∀ W, (Op.stringOp .add (wrdS ag ++ ⟨#[60]⟩) tt).run Tryd.prog W = .ok (.string (wrdS ag ++ ⟨#[60]⟩ ++ tt)) W := fun W => run_string_add_sum W _ _ (by rw [ByteArray.size_append]; show (wrdS ag).size + 1 + _ ≤ _; omega)
          have A3 : ∀ W, (Op.stringOp .add (wrdS ag ++ ⟨#[60]⟩ ++ tt) ⟨#[62]⟩).run Tryd.prog W = .ok (.string (wrdS ag ++ ⟨#[60]⟩ ++ tt ++ ⟨#[62]⟩)) W := fun W => run_string_add_sum W _ _ (by rw [ByteArray.size_append, ByteArray.size_append]; show (wrdS ag).size + 1 + _ + 1 ≤ _; omega)
          have hr3 : (wrdS ag ++ ⟨#[60]⟩ ++ tt ++ ⟨#[62]⟩).size ≤ 100 := by rw [ByteArray.size_append, ByteArray.size_append, ByteArray.size_append]; show (wrdS ag).size + 1 + _ + 1 ≤ _; omega
          generalize wrdS ag ++ ⟨#[60]⟩ ++ tt ++ ⟨#[62]⟩ = r3 at *
          generalize wrdS ag ++ ⟨#[60]⟩ ++ tt = r2 at *
          generalize wrdS ag ++ ⟨#[60]⟩ = r1 at *
          go_region_with (first
            | (go_at_call 49; (with_reducible refine (CW.out _ T4d).mono ?_); rintro e wk ⟨rfl, rfl⟩)
            | (go_at_call 12; (with_reducible refine (CT.out _ T4d).mono ?_); rintro e w5 ⟨rfl, hb5⟩; have D5 := Lib.hid (D4.out.below (Below.trans (Below.drew (Below.refl _ _)) hb5)); have K5 : Hid (Kp (M + 1) wr w5) := Lib.hid (K4.out.add (by have := D4.out.s; omega) (Below.trans (Below.drew (Below.refl _ _)) hb5)))
            | (go_at_call 35; (with_reducible refine (D5.out.ws _ (by omega) (by omega)).mono ?_); rintro e w6 ⟨rfl, hb6, hk6⟩))
          all_goals
            clear A1 A2 A3 p0 p1 q0 q1 q2
            rw [ES.out] at hb6
            have D6 := Lib.hid hb6
            have B6 : Hid (Below (M + 1) w2 w6) := Lib.hid (HBe.out.trans (K5.out.trans hk6).bel)
            clear hb6 hk6
            go_wp2_with fail
            go_roundw
            case rel => exact ⟨k + 1, by omega, by go_num, D6, B6⟩
            case measure => simp [intOf]; omega
      · by_cases hk0 : k = 0
        · have t1 : decide ((0 : Int) < (k : Int)) = false := decide_eq_false (by omega)
          have t2 : decide (0 < k) = false := decide_eq_false (by omega)
          have wn : IntKind.i64.wrap ((n : Int) - 1) = (n : Int) - 1 := by rw [IntKind.wrap_i64]; omega
          have t3 : ((k : Int) == (n : Int) - 1) = false := beq_eq_false_iff_ne.2 (by omega)
          have ES : Hid (bs pred ++ [40] ++ oA k ++ bs tt = bs pred ++ [40] ++ oA (k + 1)) := Lib.hid (by rw [OSk.out, if_pos hk0, IE.out, if_neg (fun h => hlast h.2)]; simp)
          generalize bs pred ++ [40] ++ oA k = acc at *
          clear hk0
          have MXm := Hm.out
          have hsm := smB.out
          obtain ⟨q0, q1, q2, _⟩ := cells3 Y3.out
          have T3 : Hid (STab (wr.alloc (.cells #[.int .i64 x1, .string x2, .int .i64 x3] 44))) := Lib.hid (HS.out.on h6 (BW.out.trans (K1.out.bel.mono (by omega))))
          have z5 := (K1.out.bel.block M (by omega)).trans YR.out
          clear p0 p1
          obtain ⟨p0, p1⟩ := cells2 z5
          clear z5
          have K4 := K1
          have D4 := D3
          have T4 := T3
          have A4 : acc.length ≤ 50200 := hml
          go_wp2_with fail
          generalize World.alloc wr _ = w4 at *
          refine (CT.out _ T4.out).mono ?_
          rintro e w5 ⟨rfl, hb5⟩
          have D5 := Lib.hid (D4.out.below hb5)
          have K5 : Hid (Kp (M + 1) wr w5) := Lib.hid (K4.out.add (by have := D4.out.s; omega) hb5)
          clear hb5 p0 p1 q0 q1 q2
          go_wp2_with fail
          refine (D5.out.ws tt (by omega) (by omega)).mono ?_
          rintro e w6 ⟨rfl, hb6, hk6⟩
          rw [ES.out] at hb6
          have D6 := Lib.hid hb6
          have B6 : Hid (Below (M + 1) w2 w6) := Lib.hid (HBe.out.trans (K5.out.trans hk6).bel)
          clear hb6 hk6
          go_wp2_with fail
          go_roundw
          case rel => exact ⟨k + 1, by omega, by go_num, D6, B6⟩
          case measure => simp [intOf]; omega
        · have t1 : decide ((0 : Int) < (k : Int)) = true := decide_eq_true (by omega)
          have t2 : decide (0 < k) = true := decide_eq_true (by omega)
          have wn : IntKind.i64.wrap ((n : Int) - 1) = (n : Int) - 1 := by rw [IntKind.wrap_i64]; omega
          have t3 : ((k : Int) == (n : Int) - 1) = false := beq_eq_false_iff_ne.2 (by omega)
          have ES : Hid (bs pred ++ [40] ++ oA k ++ [44] ++ bs tt = bs pred ++ [40] ++ oA (k + 1)) := Lib.hid (by rw [OSk.out, if_neg hk0, IE.out, if_neg (fun h => hlast h.2)]; simp)
          generalize bs pred ++ [40] ++ oA k = acc at *
          clear hk0
          have MXm := Hm.out
          have hsm := smB.out
          go_wp2_with fail
          refine (D3.out.wb 44 (by omega)).mono ?_
          generalize World.alloc wr _ = W3 at *
          rintro e w4 ⟨rfl, hb4, hk4⟩
          have K4 : Hid (Kp (M + 1) wr w4) := Lib.hid (K1.out.trans hk4)
          have D4 := Lib.hid hb4
          have z4 := hk4.box Y3.out (by omega) (by decide)
          clear p0 p1 f0 f1 f2
          obtain ⟨q0, q1, q2, _⟩ := cells3 z4
          have z5 := (K4.out.bel.block M (by omega)).trans YR.out
          clear hb4 hk4 z4
          obtain ⟨p0, p1⟩ := cells2 z5
          clear z5
          have T4 : Hid (STab w4) := Lib.hid (HS.out.on h6 (BW.out.trans (K4.out.bel.mono (by omega))))
          have A4 : (acc ++ [44]).length ≤ 50201 := by rw [List.length_append]; show acc.length + 1 ≤ _; omega
          generalize acc ++ [44] = ac4 at *
          go_wp2_with fail
          refine (CT.out _ T4.out).mono ?_
          rintro e w5 ⟨rfl, hb5⟩
          have D5 := Lib.hid (D4.out.below hb5)
          have K5 : Hid (Kp (M + 1) wr w5) := Lib.hid (K4.out.add (by have := D4.out.s; omega) hb5)
          clear hb5 p0 p1 q0 q1 q2
          go_wp2_with fail
          refine (D5.out.ws tt (by omega) (by omega)).mono ?_
          rintro e w6 ⟨rfl, hb6, hk6⟩
          rw [ES.out] at hb6
          have D6 := Lib.hid hb6
          have B6 : Hid (Below (M + 1) w2 w6) := Lib.hid (HBe.out.trans (K5.out.trans hk6).bel)
          clear hb6 hk6
          go_wp2_with fail
          go_roundw
          case rel => exact ⟨k + 1, by omega, by go_num, D6, B6⟩
          case measure => simp [intOf]; omega
    · obtain rfl : k = n := by omega
      have cb := HD.out.wb 41 (by omega)
      clear p0 p1
      go_wp2_with fail
      refine cb.mono ?_
      rintro e w3 ⟨rfl, hb3, hk3⟩
      have B3 : Hid (Below M w w3) := Lib.hid (BW.out.trans (hk3.bel.mono (by omega)))
      have cs := hb3.str
      clear hb3 hk3 cb
      go_wp2_with fail
      refine cs.mono ?_
      rintro e w4 ⟨rfl, hb4⟩
      have B4 : Hid (Below M w w4) := Lib.hid (B3.out.trans (hb4.mono (by omega)))
      clear hb4 cs
      go_wp2_with fail
      go_ret
      exact ⟨ret_s (by rw [FT.out]; simp), by rw [HM.out]; exact B4.out⟩
end Go.Proofs.YtaglbeokecbihaaDoor
