/- Expr.String, and the statement's own expr. Written by mksy6.py. -/
import Derived.Test.YtaglbeokecbihaaDoorSy5
namespace Go.Proofs.YtaglbeokecbihaaDoor
open Go.RowKit
set_option linter.unusedVariables false
set_option linter.unusedSimpArgs false

noncomputable def exprT (x : X) : ByteArray := ⟨(exprB x).toArray⟩
set_option maxRecDepth 100000 in
set_option maxHeartbeats 1000000 in
theorem exprString_calls {x : X} {N : Nat} {k1 : Int} {k2 : ByteArray} {k3 k4 : Int} {k5 : Option Addr} {k6 k7 : Nat} {w : World} (hx : XIn N w x ⟨k1, k2, k3, k4, k5, k6, k7⟩) (hN : N ≤ w.heap.size) (hs : STab w) (hl : (exprB x).length ≤ 100000) : Calls Tryd.prog 21 #[.agg #[.int .i64 k1, .string k2, .int .i64 k3, .int .i64 k4, .slice k5 k6 k7]] w (StrRet w (exprT x)) := by
  obtain ⟨M, hM⟩ : ∃ M, w.heap.size = M := ⟨_, rfl⟩
  have HM := Lib.hid hM
  have h6 : 6 ≤ M := by have := hs.sz; omega
  have S1 : (w.alloc (.cells #[.int .i64 k1, .string k2, .int .i64 k3, .int .i64 k4, .slice k5 k6 k7] 57)).heap.size = M + 1 := by simp [hM]
  have D0 := Lib.hid (bld_new (w.alloc (.cells #[.int .i64 k1, .string k2, .int .i64 k3, .int .i64 k4, .slice k5 k6 k7] 57)) S1)
  have B0 : Hid (Below M w ((w.alloc (.cells #[.int .i64 k1, .string k2, .int .i64 k3, .int .i64 k4, .slice k5 k6 k7] 57)).alloc (.cells #[.pointer none, .slice none 0 0] 93))) := Lib.hid (by rw [← hM]; exact below2 w _ _)
  have CW := Lib.hid (write_all x N (M + 1) k1 k2 k3 k4 k5 k6 k7 [] _ (hx.on (B0.out.mono (by omega))) (by omega) (by omega) D0.out (hs.on h6 B0.out) (by simpa using hl))
  have ET : Hid ((⟨([] ++ exprB x).toArray⟩ : ByteArray) = exprT x) := Lib.hid rfl
  clear hx hs hl S1 hM D0
  have MX := HM.out
  go_enter Tryd.func21, Tryd.ntmps21
  go_wp2_with fail
  refine CW.out.mono ?_
  rintro e w1 ⟨rfl, hb1, hk1⟩
  have B1 : Hid (Below M w w1) := Lib.hid (B0.out.trans (hk1.bel.mono (by omega)))
  have cs := hb1.str
  clear hk1 CW
  go_wp2_with fail
  refine cs.mono ?_
  rintro e w2 ⟨rfl, hb2⟩
  have B2 : Hid (Below M w w2) := Lib.hid (B1.out.trans (hb2.mono (by omega)))
  clear hb2 cs
  go_wp2_with fail
  go_ret
  exact ⟨ret_s ET.out, by rw [HM.out]; exact B2.out⟩
/-- The statement's own text of the expression x, wherever it lies. -/
def ExprAt (x : X) : Prop := ∀ (N : Nat) (k1 : Int) (k2 : ByteArray) (k3 k4 : Int) (k5 : Option Addr) (k6 k7 : Nat) (W : World), XIn N W x ⟨k1, k2, k3, k4, k5, k6, k7⟩ → N ≤ W.heap.size → STab W → (exprB x).length ≤ 100000 →
  Calls Tryd.prog 22 #[.agg #[.int .i64 k1, .string k2, .int .i64 k3, .int .i64 k4, .slice k5 k6 k7]] W (StrRet W (exprT x))
set_option maxRecDepth 100000 in
set_option maxHeartbeats 1000000 in
theorem expr_leaf (t : Tm) : ExprAt (.leaf t) := by
  intro N k1 k2 k3 k4 k5 k6 k7 W hx hN hs hl
  obtain ⟨hv, hok⟩ := hx
  cases hv
  have ct := fun w h => text_calls t hok w h
  have EX : Hid (exprT (.leaf t) = termT t) := Lib.hid (bs_back _)
  have B1 := Lib.hid ((Below.refl W.heap.size W).alloc (Nat.le_refl _) (.cells #[.int .i64 t.kind, .string t.text, .int .i64 t.n, .int .i64 0, .slice none 0 0] 57))
  have S1 : Hid (W.heap.size ≤ (W.alloc (.cells #[.int .i64 t.kind, .string t.text, .int .i64 t.n, .int .i64 0, .slice none 0 0] 57)).heap.size) := Lib.hid (by simp)
  have T1 := Lib.hid (hs.below B1.out)
  clear hs hok hl
  generalize termT t = r at *
  go_enter Tryd.func22, Tryd.ntmps22
  go_wp2_with fail
  refine (ct _ T1.out).mono ?_
  generalize World.alloc W _ = W0 at *
  rintro e w2 ⟨rfl, hb2⟩
  have B2 : Hid (Below W.heap.size W w2) := Lib.hid (B1.out.trans (hb2.mono S1.out))
  clear hb2 ct
  go_wp2_with fail
  go_ret
  exact ⟨ret_s EX.out.symm, B2.out⟩
theorem exprT_size (x : X) : (exprT x).size = (exprB x).length := size_lit _
theorem wrap_op (o i p : Nat) (a b : X) (ho : o < 5) (hp : p < 5) : wrapB o i (.op p a b) = ((decide (p ≤ 1) && !decide (o ≤ 1)) || (i == 1 && (decide (p ≤ 1) == decide (o ≤ 1)))) := by
  have h : ∀ o, o < 5 → ∀ p, p < 5 → ((lvl p == 1 && lvl o == 2) = (decide (p ≤ 1) && !decide (o ≤ 1))) ∧ ((lvl p == lvl o) = (decide (p ≤ 1) == decide (o ≤ 1))) := by decide
  obtain ⟨h1, h2⟩ := h o ho p hp
  show ((lvl p == 1 && lvl o == 2) || (i == 1 && lvl p == lvl o)) = _
  rw [h1, h2]
theorem emp_app (t : ByteArray) : (⟨#[]⟩ : ByteArray) ++ t = t := by apply ByteArray.ext; simp
theorem parT (p : Bool) (x : X) : (⟨(parB p (exprB x)).toArray⟩ : ByteArray) = if p = true then ⟨#[40]⟩ ++ exprT x ++ ⟨#[41]⟩ else exprT x := by
  unfold parB exprT
  split
  · apply ByteArray.ext; simp
  · rfl
theorem op_cases {o : Nat} (ho : o < 5) : (((o : Int) == 0) = true ∧ ((o : Int) == 1) = false ∧ decide (o ≤ 1) = true) ∨ (((o : Int) == 0) = false ∧ ((o : Int) == 1) = true ∧ decide (o ≤ 1) = true) ∨ (((o : Int) == 0) = false ∧ ((o : Int) == 1) = false ∧ decide (o ≤ 1) = false) := by
  match o, ho with
  | 0, _ => exact .inl ⟨rfl, rfl, rfl⟩
  | 1, _ => exact .inr (.inl ⟨rfl, rfl, rfl⟩)
  | 2, _ => exact .inr (.inr ⟨rfl, rfl, rfl⟩)
  | 3, _ => exact .inr (.inr ⟨rfl, rfl, rfl⟩)
  | 4, _ => exact .inr (.inr ⟨rfl, rfl, rfl⟩)
/-- What the loop has written at round i. -/
noncomputable def outT (o : Nat) (a b : X) (i : Nat) : ByteArray := match i with
  | 0 => ⟨#[]⟩
  | 1 => ⟨(parB (wrapB o 0 a) (exprB a)).toArray⟩
  | _ => exprT (.op o a b)
set_option maxRecDepth 100000 in
set_option maxHeartbeats 4000000 in
theorem expr_op (o : Nat) (a b : X) (iha : ExprAt a) (ihb : ExprAt b) : ExprAt (.op o a b) := by
  intro N k1 k2 k3 k4 k5 k6 k7 W hx hN hs hl
  obtain ⟨g, c, va, vb, hv, ho, hg, hca, hcb, hxa, hxb⟩ := hx
  cases hv
  obtain ⟨a1, a2, a3, a4, a5, a6, a7⟩ := va
  obtain ⟨b1, b2, b3, b4, b5, b6, b7⟩ := vb
  have hs5 := ariS_size o ho
  have EX : Hid (exprB (.op o a b) = parB (wrapB o 0 a) (exprB a) ++ ([32] ++ bs (ariS o) ++ [32]) ++ parB (wrapB o 1 b) (exprB b)) := Lib.hid rfl
  have hla : (parB (wrapB o 0 a) (exprB a)).length + 3 + (parB (wrapB o 1 b) (exprB b)).length = (exprB (.op o a b)).length := by
    rw [EX.out]
    simp only [List.length_append, List.length_cons, List.length_nil, bs_len, hs5]
  have hpa : (exprB a).length ≤ (parB (wrapB o 0 a) (exprB a)).length := by unfold parB; split <;> simp <;> omega
  have hpb : (exprB b).length ≤ (parB (wrapB o 1 b) (exprB b)).length := by unfold parB; split <;> simp <;> omega
  obtain ⟨M, hM⟩ : ∃ M, W.heap.size = M := ⟨_, rfl⟩
  have HM := Lib.hid hM
  have hgM : g < M := by omega
  have FA : Hid (∀ w, Below M W w → w.cell? ⟨g, 0, none⟩ = some (.int .i64 a1) ∧ w.cell? ⟨g, 1, none⟩ = some (.string a2) ∧ w.cell? ⟨g, 2, none⟩ = some (.int .i64 a3) ∧ w.cell? ⟨g, 3, none⟩ = some (.int .i64 a4) ∧ w.cell? ⟨g, 4, none⟩ = some (.slice a5 a6 a7)) := Lib.hid (fun w h => ⟨(h.cell (p := ⟨g, 0, none⟩) hgM).trans (hca 0 _ rfl), (h.cell (p := ⟨g, 1, none⟩) hgM).trans (hca 1 _ rfl), (h.cell (p := ⟨g, 2, none⟩) hgM).trans (hca 2 _ rfl), (h.cell (p := ⟨g, 3, none⟩) hgM).trans (hca 3 _ rfl), (h.cell (p := ⟨g, 4, none⟩) hgM).trans (hca 4 _ rfl)⟩)
  have FB : Hid (∀ w, Below M W w → w.cell? ⟨g, 5, none⟩ = some (.int .i64 b1) ∧ w.cell? ⟨g, 6, none⟩ = some (.string b2) ∧ w.cell? ⟨g, 7, none⟩ = some (.int .i64 b3) ∧ w.cell? ⟨g, 8, none⟩ = some (.int .i64 b4) ∧ w.cell? ⟨g, 9, none⟩ = some (.slice b5 b6 b7)) := Lib.hid (fun w h => ⟨(h.cell (p := ⟨g, 5, none⟩) hgM).trans (hcb 0 _ rfl), (h.cell (p := ⟨g, 6, none⟩) hgM).trans (hcb 1 _ rfl), (h.cell (p := ⟨g, 7, none⟩) hgM).trans (hcb 2 _ rfl), (h.cell (p := ⟨g, 8, none⟩) hgM).trans (hcb 3 _ rfl), (h.cell (p := ⟨g, 9, none⟩) hgM).trans (hcb 4 _ rfl)⟩)
  have XA := Lib.hid hxa
  have XB := Lib.hid hxb
  have IA : Hid (∀ w, Below M W w → Calls Tryd.prog 22 #[.agg #[.int .i64 a1, .string a2, .int .i64 a3, .int .i64 a4, .slice a5 a6 a7]] w (StrRet w (exprT a))) := Lib.hid (fun w h => iha N a1 a2 a3 a4 a5 a6 a7 w (hxa.on (h.mono (by omega))) (by have := h.size; omega) (hs.on (by have := hs.sz; omega) h) (by omega))
  have IB : Hid (∀ w, Below M W w → Calls Tryd.prog 22 #[.agg #[.int .i64 b1, .string b2, .int .i64 b3, .int .i64 b4, .slice b5 b6 b7]] w (StrRet w (exprT b))) := Lib.hid (fun w h => ihb N b1 b2 b3 b4 b5 b6 b7 w (hxb.on (h.mono (by omega))) (by have := h.size; omega) (hs.on (by have := hs.sz; omega) h) (by omega))
  have CS : Hid (∀ w, Below M W w → Calls Tryd.prog 45 #[.int .i64 o] w fun e w' => e = .returned (.string (ariS o)) ∧ w = w') := Lib.hid (fun w h => ariSign_calls o ho w (hs.on (by have := hs.sz; omega) h))
  have Y0 := Lib.hid (box5 W (.int .i64 0) (.string ⟨#[]⟩) (.int .i64 0) (.int .i64 o) (.slice (some ⟨g, 0, none⟩) 2 k7) 57)
  have BL := Lib.hid ((Below.refl W.heap.size W).alloc (Nat.le_refl _) (.cells #[.int .i64 0, .string ⟨#[]⟩, .int .i64 0, .int .i64 o, .slice (some ⟨g, 0, none⟩) 2 k7] 57))
  have SZ : Hid ((W.alloc (.cells #[.int .i64 0, .string ⟨#[]⟩, .int .i64 0, .int .i64 o, .slice (some ⟨g, 0, none⟩) 2 k7] 57)).heap.size = M + 1) := Lib.hid (by simp [hM])
  rw [hM] at Y0 BL
  have saz : (exprT a).size ≤ 100000 := by rw [exprT_size]; omega
  have sbz : (exprT b).size ≤ 100000 := by rw [exprT_size]; omega
  have OZ : Hid (∀ i, (outT o a b i).size ≤ 100000) := Lib.hid (fun i => by
    match i with
    | 0 => show (0 : Nat) ≤ _; omega
    | 1 => show (⟨_⟩ : ByteArray).size ≤ _; rw [size_lit]; omega
    | i + 2 => show (exprT _).size ≤ _; rw [exprT_size]; exact hl)
  have O1 : Hid (outT o a b 1 = if wrapB o 0 a = true then ⟨#[40]⟩ ++ exprT a ++ ⟨#[41]⟩ else exprT a) := Lib.hid (parT _ _)
  have O2 : Hid (outT o a b 2 = outT o a b 1 ++ ⟨#[32]⟩ ++ ariS o ++ ⟨#[32]⟩ ++ (if wrapB o 1 b = true then ⟨#[40]⟩ ++ exprT b ++ ⟨#[41]⟩ else exprT b)) := Lib.hid (by
    rw [← parT]
    show (⟨(exprB (.op o a b)).toArray⟩ : ByteArray) = ⟨(parB (wrapB o 0 a) (exprB a)).toArray⟩ ++ _ ++ _ ++ _ ++ _
    rw [EX.out]
    apply ByteArray.ext
    simp [bs])
  clear hla hpa hpb EX hs hl hM hca hcb hxa hxb iha ihb
  have W0E : Hid ((W.alloc (.cells #[.int .i64 0, .string ⟨#[]⟩, .int .i64 0, .int .i64 o, .slice (some ⟨g, 0, none⟩) 2 k7] 57)).heap[M]? = some (.cells #[.int .i64 0, .string ⟨#[]⟩, .int .i64 0, .int .i64 o, .slice (some ⟨g, 0, none⟩) 2 k7] 57 (0, 0))) := Y0
  have OE : Hid (outT o a b 0 = ⟨#[]⟩) := Lib.hid rfl
  have OF : Hid (exprT (.op o a b) = outT o a b 2) := Lib.hid rfl
  generalize hoS : exprT (.op o a b) = oS at *
  clear hoS
  generalize outT o a b = oT at *
  generalize ariS o = sg at *
  have MX := HM.out
  go_enter Tryd.func22, Tryd.ntmps22
  rcases op_cases ho with ⟨t0, t1, tm⟩ | ⟨t0, t1, tm⟩ | ⟨t0, t1, tm⟩
  · go_wp2_with fail
    go_loopw [3, 27] (fun v i wr => ∃ k : Nat, k ≤ 2 ∧ i = .int .i64 k ∧ v = .string (oT k) ∧ Hid (Below M W wr) ∧ Hid (wr.heap[M]? = some (.cells #[.int .i64 0, .string ⟨#[]⟩, .int .i64 0, .int .i64 o, .slice (some ⟨g, 0, none⟩) 2 k7] 57 (0, 0))) ∧ Hid (M < wr.heap.size)) (fun _ i _ => 2 - (intOf i).toNat)
    case atStart => exact ⟨0, by omega, rfl, by rw [OE.out], BL, Y0, Lib.hid (by rw [SZ.out]; omega)⟩
    case round =>
      obtain ⟨k, hk, rfl, rfl, HBe, HY, HS⟩ := hrel
      have hMr := HS.out
      by_cases h0 : k = 0
      · subst h0
        obtain ⟨c0, c1, c2, c3, c4⟩ := FA.out wr HBe.out
        have ke := IA.out (wr.alloc (.cells #[.int .i64 a1, .string a2, .int .i64 a3, .int .i64 a4, .slice a5 a6 a7] 57)) (HBe.out.alloc (Nat.le_of_lt hMr) _)
        have KY := Lib.hid (box5 wr (.int .i64 a1) (.string a2) (.int .i64 a3) (.int .i64 a4) (.slice a5 a6 a7) 57)
        have KB := Lib.hid (HBe.out.alloc (Nat.le_of_lt hMr) (.cells #[.int .i64 a1, .string a2, .int .i64 a3, .int .i64 a4, .slice a5 a6 a7] 57))
        have KS : Hid ((wr.alloc (.cells #[.int .i64 a1, .string a2, .int .i64 a3, .int .i64 a4, .slice a5 a6 a7] 57)).heap.size = wr.heap.size + 1) := Lib.hid (by simp)
        have K0 : Hid ((wr.alloc (.cells #[.int .i64 a1, .string a2, .int .i64 a3, .int .i64 a4, .slice a5 a6 a7] 57)).heap[M]? = some (.cells #[.int .i64 0, .string ⟨#[]⟩, .int .i64 0, .int .i64 o, .slice (some ⟨g, 0, none⟩) 2 k7] 57 (0, 0))) := Lib.hid ((((Below.refl wr.heap.size wr).alloc (Nat.le_refl _) _).block M hMr).trans HY.out)
        obtain ⟨y0, y1, y2, y3, y4⟩ := cells5 HY.out
        have hz := OZ.out 0
        have hz1 := OZ.out 1
        have hz2 := OZ.out 2
        have hzk := saz
        cases a with
        | leaf tl =>
          obtain ⟨hv, _⟩ := XA.out
          cases hv
          have WR : wrapB o 0 (.leaf tl) = false := rfl
          generalize exprT (.leaf tl) = kt at *
          have NX : Hid (oT 0 ++ (kt) = oT 1) := Lib.hid (by rw [O1.out, WR, OE.out, emp_app]; rfl)
          clear WR
          generalize oT 0 = o1 at *
          go_wp2_with fail
          refine ke.mono ?_
          generalize World.alloc wr _ = Wk at *
          rintro e w2 ⟨rfl, hb2⟩
          have z1 := (hb2.block wr.heap.size (by rw [KS.out]; omega)).trans KY.out
          have z0 := (hb2.block M (by rw [KS.out]; omega)).trans K0.out
          have B2 : Hid (Below M W w2) := Lib.hid (KB.out.trans (hb2.mono (by rw [KS.out]; omega)))
          have Y2 := Lib.hid z0
          have S2 : Hid (M < w2.heap.size) := Lib.hid (by have := hb2.size; rw [KS.out] at this; omega)
          obtain ⟨q0, q1, q2, q3, q4⟩ := cells5 z1
          obtain ⟨r0, r1, r2, r3, r4⟩ := cells5 z0
          clear hb2 z1 z0 c0 c1 c2 c3 c4 y0 y1 y2 y3 y4 ke
          go_wp2_with fail
          go_roundw
          case rel => exact ⟨1, by omega, by go_num, by first | exact congrArg Value.string NX.out | (rw [← NX.out]; rfl), B2, Y2, S2⟩
          case measure => simp [intOf]
        | op p ka kb =>
          obtain ⟨g', c', va', vb', hv, hp, _⟩ := XA.out
          cases hv
          rcases op_cases hp with ⟨u0, u1, um⟩ | ⟨u0, u1, um⟩ | ⟨u0, u1, um⟩
          · have WR : wrapB o 0 (.op p ka kb) = false := by rw [wrap_op _ _ _ _ _ ho hp, um, tm]; rfl
            generalize exprT (.op p ka kb) = kt at *
            have NX : Hid (oT 0 ++ (kt) = oT 1) := Lib.hid (by rw [O1.out, WR, OE.out, emp_app]; rfl)
            clear WR
            generalize oT 0 = o1 at *
            go_wp2_with fail
            refine ke.mono ?_
            generalize World.alloc wr _ = Wk at *
            rintro e w2 ⟨rfl, hb2⟩
            have z1 := (hb2.block wr.heap.size (by rw [KS.out]; omega)).trans KY.out
            have z0 := (hb2.block M (by rw [KS.out]; omega)).trans K0.out
            have B2 : Hid (Below M W w2) := Lib.hid (KB.out.trans (hb2.mono (by rw [KS.out]; omega)))
            have Y2 := Lib.hid z0
            have S2 : Hid (M < w2.heap.size) := Lib.hid (by have := hb2.size; rw [KS.out] at this; omega)
            obtain ⟨q0, q1, q2, q3, q4⟩ := cells5 z1
            obtain ⟨r0, r1, r2, r3, r4⟩ := cells5 z0
            clear hb2 z1 z0 c0 c1 c2 c3 c4 y0 y1 y2 y3 y4 ke
            go_wp2_with fail
            go_roundw
            case rel => exact ⟨1, by omega, by go_num, by first | exact congrArg Value.string NX.out | (rw [← NX.out]; rfl), B2, Y2, S2⟩
            case measure => simp [intOf]
          · have WR : wrapB o 0 (.op p ka kb) = false := by rw [wrap_op _ _ _ _ _ ho hp, um, tm]; rfl
            generalize exprT (.op p ka kb) = kt at *
            have NX : Hid (oT 0 ++ (kt) = oT 1) := Lib.hid (by rw [O1.out, WR, OE.out, emp_app]; rfl)
            clear WR
            generalize oT 0 = o1 at *
            go_wp2_with fail
            refine ke.mono ?_
            generalize World.alloc wr _ = Wk at *
            rintro e w2 ⟨rfl, hb2⟩
            have z1 := (hb2.block wr.heap.size (by rw [KS.out]; omega)).trans KY.out
            have z0 := (hb2.block M (by rw [KS.out]; omega)).trans K0.out
            have B2 : Hid (Below M W w2) := Lib.hid (KB.out.trans (hb2.mono (by rw [KS.out]; omega)))
            have Y2 := Lib.hid z0
            have S2 : Hid (M < w2.heap.size) := Lib.hid (by have := hb2.size; rw [KS.out] at this; omega)
            obtain ⟨q0, q1, q2, q3, q4⟩ := cells5 z1
            obtain ⟨r0, r1, r2, r3, r4⟩ := cells5 z0
            clear hb2 z1 z0 c0 c1 c2 c3 c4 y0 y1 y2 y3 y4 ke
            go_wp2_with fail
            go_roundw
            case rel => exact ⟨1, by omega, by go_num, by first | exact congrArg Value.string NX.out | (rw [← NX.out]; rfl), B2, Y2, S2⟩
            case measure => simp [intOf]
          · have WR : wrapB o 0 (.op p ka kb) = false := by rw [wrap_op _ _ _ _ _ ho hp, um, tm]; rfl
            generalize exprT (.op p ka kb) = kt at *
            have NX : Hid (oT 0 ++ (kt) = oT 1) := Lib.hid (by rw [O1.out, WR, OE.out, emp_app]; rfl)
            clear WR
            generalize oT 0 = o1 at *
            go_wp2_with fail
            refine ke.mono ?_
            generalize World.alloc wr _ = Wk at *
            rintro e w2 ⟨rfl, hb2⟩
            have z1 := (hb2.block wr.heap.size (by rw [KS.out]; omega)).trans KY.out
            have z0 := (hb2.block M (by rw [KS.out]; omega)).trans K0.out
            have B2 : Hid (Below M W w2) := Lib.hid (KB.out.trans (hb2.mono (by rw [KS.out]; omega)))
            have Y2 := Lib.hid z0
            have S2 : Hid (M < w2.heap.size) := Lib.hid (by have := hb2.size; rw [KS.out] at this; omega)
            obtain ⟨q0, q1, q2, q3, q4⟩ := cells5 z1
            obtain ⟨r0, r1, r2, r3, r4⟩ := cells5 z0
            clear hb2 z1 z0 c0 c1 c2 c3 c4 y0 y1 y2 y3 y4 ke
            go_wp2_with fail
            go_roundw
            case rel => exact ⟨1, by omega, by go_num, by first | exact congrArg Value.string NX.out | (rw [← NX.out]; rfl), B2, Y2, S2⟩
            case measure => simp [intOf]
      by_cases h1 : k = 1
      · subst h1
        obtain ⟨c0, c1, c2, c3, c4⟩ := FB.out wr HBe.out
        have ke := IB.out (wr.alloc (.cells #[.int .i64 b1, .string b2, .int .i64 b3, .int .i64 b4, .slice b5 b6 b7] 57)) (HBe.out.alloc (Nat.le_of_lt hMr) _)
        have KY := Lib.hid (box5 wr (.int .i64 b1) (.string b2) (.int .i64 b3) (.int .i64 b4) (.slice b5 b6 b7) 57)
        have KB := Lib.hid (HBe.out.alloc (Nat.le_of_lt hMr) (.cells #[.int .i64 b1, .string b2, .int .i64 b3, .int .i64 b4, .slice b5 b6 b7] 57))
        have KS : Hid ((wr.alloc (.cells #[.int .i64 b1, .string b2, .int .i64 b3, .int .i64 b4, .slice b5 b6 b7] 57)).heap.size = wr.heap.size + 1) := Lib.hid (by simp)
        have K0 : Hid ((wr.alloc (.cells #[.int .i64 b1, .string b2, .int .i64 b3, .int .i64 b4, .slice b5 b6 b7] 57)).heap[M]? = some (.cells #[.int .i64 0, .string ⟨#[]⟩, .int .i64 0, .int .i64 o, .slice (some ⟨g, 0, none⟩) 2 k7] 57 (0, 0))) := Lib.hid ((((Below.refl wr.heap.size wr).alloc (Nat.le_refl _) _).block M hMr).trans HY.out)
        obtain ⟨y0, y1, y2, y3, y4⟩ := cells5 HY.out
        have hz := OZ.out 0
        have hz1 := OZ.out 1
        have hz2 := OZ.out 2
        have hzk := sbz
        cases b with
        | leaf tl =>
          obtain ⟨hv, _⟩ := XB.out
          cases hv
          have WR : wrapB o 1 (.leaf tl) = false := rfl
          generalize exprT (.leaf tl) = kt at *
          have NX : Hid (oT 1 ++ ⟨#[32]⟩ ++ sg ++ ⟨#[32]⟩ ++ (kt) = oT 2) := Lib.hid (by rw [O2.out, WR]; rfl)
          clear WR
          generalize oT 1 = o1 at *
          go_wp2_with fail
          refine ke.mono ?_
          generalize World.alloc wr _ = Wk at *
          rintro e w2 ⟨rfl, hb2⟩
          have z1 := (hb2.block wr.heap.size (by rw [KS.out]; omega)).trans KY.out
          have z0 := (hb2.block M (by rw [KS.out]; omega)).trans K0.out
          have B2 : Hid (Below M W w2) := Lib.hid (KB.out.trans (hb2.mono (by rw [KS.out]; omega)))
          have Y2 := Lib.hid z0
          have S2 : Hid (M < w2.heap.size) := Lib.hid (by have := hb2.size; rw [KS.out] at this; omega)
          obtain ⟨q0, q1, q2, q3, q4⟩ := cells5 z1
          obtain ⟨r0, r1, r2, r3, r4⟩ := cells5 z0
          clear hb2 z1 z0 c0 c1 c2 c3 c4 y0 y1 y2 y3 y4 ke
          go_wp2_with fail
          refine (CS.out w2 B2.out).mono ?_
          rintro e w' ⟨rfl, rfl⟩
          go_wp2_with fail
          go_roundw
          case rel => exact ⟨2, by omega, by go_num, by first | exact congrArg Value.string NX.out | (rw [← NX.out]; rfl), B2, Y2, S2⟩
          case measure => simp [intOf]
        | op p ka kb =>
          obtain ⟨g', c', va', vb', hv, hp, _⟩ := XB.out
          cases hv
          rcases op_cases hp with ⟨u0, u1, um⟩ | ⟨u0, u1, um⟩ | ⟨u0, u1, um⟩
          · have WR : wrapB o 1 (.op p ka kb) = true := by rw [wrap_op _ _ _ _ _ ho hp, um, tm]; rfl
            generalize exprT (.op p ka kb) = kt at *
            have NX : Hid (oT 1 ++ ⟨#[32]⟩ ++ sg ++ ⟨#[32]⟩ ++ (⟨#[40]⟩ ++ kt ++ ⟨#[41]⟩) = oT 2) := Lib.hid (by rw [O2.out, WR]; rfl)
            clear WR
            generalize oT 1 = o1 at *
            go_wp2_with fail
            refine ke.mono ?_
            generalize World.alloc wr _ = Wk at *
            rintro e w2 ⟨rfl, hb2⟩
            have z1 := (hb2.block wr.heap.size (by rw [KS.out]; omega)).trans KY.out
            have z0 := (hb2.block M (by rw [KS.out]; omega)).trans K0.out
            have B2 : Hid (Below M W w2) := Lib.hid (KB.out.trans (hb2.mono (by rw [KS.out]; omega)))
            have Y2 := Lib.hid z0
            have S2 : Hid (M < w2.heap.size) := Lib.hid (by have := hb2.size; rw [KS.out] at this; omega)
            obtain ⟨q0, q1, q2, q3, q4⟩ := cells5 z1
            obtain ⟨r0, r1, r2, r3, r4⟩ := cells5 z0
            clear hb2 z1 z0 c0 c1 c2 c3 c4 y0 y1 y2 y3 y4 ke
            go_wp2_with fail
            refine (CS.out w2 B2.out).mono ?_
            rintro e w' ⟨rfl, rfl⟩
            go_wp2_with fail
            go_roundw
            case rel => exact ⟨2, by omega, by go_num, by first | exact congrArg Value.string NX.out | (rw [← NX.out]; rfl), B2, Y2, S2⟩
            case measure => simp [intOf]
          · have WR : wrapB o 1 (.op p ka kb) = true := by rw [wrap_op _ _ _ _ _ ho hp, um, tm]; rfl
            generalize exprT (.op p ka kb) = kt at *
            have NX : Hid (oT 1 ++ ⟨#[32]⟩ ++ sg ++ ⟨#[32]⟩ ++ (⟨#[40]⟩ ++ kt ++ ⟨#[41]⟩) = oT 2) := Lib.hid (by rw [O2.out, WR]; rfl)
            clear WR
            generalize oT 1 = o1 at *
            go_wp2_with fail
            refine ke.mono ?_
            generalize World.alloc wr _ = Wk at *
            rintro e w2 ⟨rfl, hb2⟩
            have z1 := (hb2.block wr.heap.size (by rw [KS.out]; omega)).trans KY.out
            have z0 := (hb2.block M (by rw [KS.out]; omega)).trans K0.out
            have B2 : Hid (Below M W w2) := Lib.hid (KB.out.trans (hb2.mono (by rw [KS.out]; omega)))
            have Y2 := Lib.hid z0
            have S2 : Hid (M < w2.heap.size) := Lib.hid (by have := hb2.size; rw [KS.out] at this; omega)
            obtain ⟨q0, q1, q2, q3, q4⟩ := cells5 z1
            obtain ⟨r0, r1, r2, r3, r4⟩ := cells5 z0
            clear hb2 z1 z0 c0 c1 c2 c3 c4 y0 y1 y2 y3 y4 ke
            go_wp2_with fail
            refine (CS.out w2 B2.out).mono ?_
            rintro e w' ⟨rfl, rfl⟩
            go_wp2_with fail
            go_roundw
            case rel => exact ⟨2, by omega, by go_num, by first | exact congrArg Value.string NX.out | (rw [← NX.out]; rfl), B2, Y2, S2⟩
            case measure => simp [intOf]
          · have WR : wrapB o 1 (.op p ka kb) = false := by rw [wrap_op _ _ _ _ _ ho hp, um, tm]; rfl
            generalize exprT (.op p ka kb) = kt at *
            have NX : Hid (oT 1 ++ ⟨#[32]⟩ ++ sg ++ ⟨#[32]⟩ ++ (kt) = oT 2) := Lib.hid (by rw [O2.out, WR]; rfl)
            clear WR
            generalize oT 1 = o1 at *
            go_wp2_with fail
            refine ke.mono ?_
            generalize World.alloc wr _ = Wk at *
            rintro e w2 ⟨rfl, hb2⟩
            have z1 := (hb2.block wr.heap.size (by rw [KS.out]; omega)).trans KY.out
            have z0 := (hb2.block M (by rw [KS.out]; omega)).trans K0.out
            have B2 : Hid (Below M W w2) := Lib.hid (KB.out.trans (hb2.mono (by rw [KS.out]; omega)))
            have Y2 := Lib.hid z0
            have S2 : Hid (M < w2.heap.size) := Lib.hid (by have := hb2.size; rw [KS.out] at this; omega)
            obtain ⟨q0, q1, q2, q3, q4⟩ := cells5 z1
            obtain ⟨r0, r1, r2, r3, r4⟩ := cells5 z0
            clear hb2 z1 z0 c0 c1 c2 c3 c4 y0 y1 y2 y3 y4 ke
            go_wp2_with fail
            refine (CS.out w2 B2.out).mono ?_
            rintro e w' ⟨rfl, rfl⟩
            go_wp2_with fail
            go_roundw
            case rel => exact ⟨2, by omega, by go_num, by first | exact congrArg Value.string NX.out | (rw [← NX.out]; rfl), B2, Y2, S2⟩
            case measure => simp [intOf]
      obtain rfl : k = 2 := by omega
      go_wp2_with fail
      go_ret
      exact ⟨ret_s OF.out.symm, by rw [HM.out]; exact HBe.out⟩
  · go_wp2_with fail
    go_loopw [3, 27] (fun v i wr => ∃ k : Nat, k ≤ 2 ∧ i = .int .i64 k ∧ v = .string (oT k) ∧ Hid (Below M W wr) ∧ Hid (wr.heap[M]? = some (.cells #[.int .i64 0, .string ⟨#[]⟩, .int .i64 0, .int .i64 o, .slice (some ⟨g, 0, none⟩) 2 k7] 57 (0, 0))) ∧ Hid (M < wr.heap.size)) (fun _ i _ => 2 - (intOf i).toNat)
    case atStart => exact ⟨0, by omega, rfl, by rw [OE.out], BL, Y0, Lib.hid (by rw [SZ.out]; omega)⟩
    case round =>
      obtain ⟨k, hk, rfl, rfl, HBe, HY, HS⟩ := hrel
      have hMr := HS.out
      by_cases h0 : k = 0
      · subst h0
        obtain ⟨c0, c1, c2, c3, c4⟩ := FA.out wr HBe.out
        have ke := IA.out (wr.alloc (.cells #[.int .i64 a1, .string a2, .int .i64 a3, .int .i64 a4, .slice a5 a6 a7] 57)) (HBe.out.alloc (Nat.le_of_lt hMr) _)
        have KY := Lib.hid (box5 wr (.int .i64 a1) (.string a2) (.int .i64 a3) (.int .i64 a4) (.slice a5 a6 a7) 57)
        have KB := Lib.hid (HBe.out.alloc (Nat.le_of_lt hMr) (.cells #[.int .i64 a1, .string a2, .int .i64 a3, .int .i64 a4, .slice a5 a6 a7] 57))
        have KS : Hid ((wr.alloc (.cells #[.int .i64 a1, .string a2, .int .i64 a3, .int .i64 a4, .slice a5 a6 a7] 57)).heap.size = wr.heap.size + 1) := Lib.hid (by simp)
        have K0 : Hid ((wr.alloc (.cells #[.int .i64 a1, .string a2, .int .i64 a3, .int .i64 a4, .slice a5 a6 a7] 57)).heap[M]? = some (.cells #[.int .i64 0, .string ⟨#[]⟩, .int .i64 0, .int .i64 o, .slice (some ⟨g, 0, none⟩) 2 k7] 57 (0, 0))) := Lib.hid ((((Below.refl wr.heap.size wr).alloc (Nat.le_refl _) _).block M hMr).trans HY.out)
        obtain ⟨y0, y1, y2, y3, y4⟩ := cells5 HY.out
        have hz := OZ.out 0
        have hz1 := OZ.out 1
        have hz2 := OZ.out 2
        have hzk := saz
        cases a with
        | leaf tl =>
          obtain ⟨hv, _⟩ := XA.out
          cases hv
          have WR : wrapB o 0 (.leaf tl) = false := rfl
          generalize exprT (.leaf tl) = kt at *
          have NX : Hid (oT 0 ++ (kt) = oT 1) := Lib.hid (by rw [O1.out, WR, OE.out, emp_app]; rfl)
          clear WR
          generalize oT 0 = o1 at *
          go_wp2_with fail
          refine ke.mono ?_
          generalize World.alloc wr _ = Wk at *
          rintro e w2 ⟨rfl, hb2⟩
          have z1 := (hb2.block wr.heap.size (by rw [KS.out]; omega)).trans KY.out
          have z0 := (hb2.block M (by rw [KS.out]; omega)).trans K0.out
          have B2 : Hid (Below M W w2) := Lib.hid (KB.out.trans (hb2.mono (by rw [KS.out]; omega)))
          have Y2 := Lib.hid z0
          have S2 : Hid (M < w2.heap.size) := Lib.hid (by have := hb2.size; rw [KS.out] at this; omega)
          obtain ⟨q0, q1, q2, q3, q4⟩ := cells5 z1
          obtain ⟨r0, r1, r2, r3, r4⟩ := cells5 z0
          clear hb2 z1 z0 c0 c1 c2 c3 c4 y0 y1 y2 y3 y4 ke
          go_wp2_with fail
          go_roundw
          case rel => exact ⟨1, by omega, by go_num, by first | exact congrArg Value.string NX.out | (rw [← NX.out]; rfl), B2, Y2, S2⟩
          case measure => simp [intOf]
        | op p ka kb =>
          obtain ⟨g', c', va', vb', hv, hp, _⟩ := XA.out
          cases hv
          rcases op_cases hp with ⟨u0, u1, um⟩ | ⟨u0, u1, um⟩ | ⟨u0, u1, um⟩
          · have WR : wrapB o 0 (.op p ka kb) = false := by rw [wrap_op _ _ _ _ _ ho hp, um, tm]; rfl
            generalize exprT (.op p ka kb) = kt at *
            have NX : Hid (oT 0 ++ (kt) = oT 1) := Lib.hid (by rw [O1.out, WR, OE.out, emp_app]; rfl)
            clear WR
            generalize oT 0 = o1 at *
            go_wp2_with fail
            refine ke.mono ?_
            generalize World.alloc wr _ = Wk at *
            rintro e w2 ⟨rfl, hb2⟩
            have z1 := (hb2.block wr.heap.size (by rw [KS.out]; omega)).trans KY.out
            have z0 := (hb2.block M (by rw [KS.out]; omega)).trans K0.out
            have B2 : Hid (Below M W w2) := Lib.hid (KB.out.trans (hb2.mono (by rw [KS.out]; omega)))
            have Y2 := Lib.hid z0
            have S2 : Hid (M < w2.heap.size) := Lib.hid (by have := hb2.size; rw [KS.out] at this; omega)
            obtain ⟨q0, q1, q2, q3, q4⟩ := cells5 z1
            obtain ⟨r0, r1, r2, r3, r4⟩ := cells5 z0
            clear hb2 z1 z0 c0 c1 c2 c3 c4 y0 y1 y2 y3 y4 ke
            go_wp2_with fail
            go_roundw
            case rel => exact ⟨1, by omega, by go_num, by first | exact congrArg Value.string NX.out | (rw [← NX.out]; rfl), B2, Y2, S2⟩
            case measure => simp [intOf]
          · have WR : wrapB o 0 (.op p ka kb) = false := by rw [wrap_op _ _ _ _ _ ho hp, um, tm]; rfl
            generalize exprT (.op p ka kb) = kt at *
            have NX : Hid (oT 0 ++ (kt) = oT 1) := Lib.hid (by rw [O1.out, WR, OE.out, emp_app]; rfl)
            clear WR
            generalize oT 0 = o1 at *
            go_wp2_with fail
            refine ke.mono ?_
            generalize World.alloc wr _ = Wk at *
            rintro e w2 ⟨rfl, hb2⟩
            have z1 := (hb2.block wr.heap.size (by rw [KS.out]; omega)).trans KY.out
            have z0 := (hb2.block M (by rw [KS.out]; omega)).trans K0.out
            have B2 : Hid (Below M W w2) := Lib.hid (KB.out.trans (hb2.mono (by rw [KS.out]; omega)))
            have Y2 := Lib.hid z0
            have S2 : Hid (M < w2.heap.size) := Lib.hid (by have := hb2.size; rw [KS.out] at this; omega)
            obtain ⟨q0, q1, q2, q3, q4⟩ := cells5 z1
            obtain ⟨r0, r1, r2, r3, r4⟩ := cells5 z0
            clear hb2 z1 z0 c0 c1 c2 c3 c4 y0 y1 y2 y3 y4 ke
            go_wp2_with fail
            go_roundw
            case rel => exact ⟨1, by omega, by go_num, by first | exact congrArg Value.string NX.out | (rw [← NX.out]; rfl), B2, Y2, S2⟩
            case measure => simp [intOf]
          · have WR : wrapB o 0 (.op p ka kb) = false := by rw [wrap_op _ _ _ _ _ ho hp, um, tm]; rfl
            generalize exprT (.op p ka kb) = kt at *
            have NX : Hid (oT 0 ++ (kt) = oT 1) := Lib.hid (by rw [O1.out, WR, OE.out, emp_app]; rfl)
            clear WR
            generalize oT 0 = o1 at *
            go_wp2_with fail
            refine ke.mono ?_
            generalize World.alloc wr _ = Wk at *
            rintro e w2 ⟨rfl, hb2⟩
            have z1 := (hb2.block wr.heap.size (by rw [KS.out]; omega)).trans KY.out
            have z0 := (hb2.block M (by rw [KS.out]; omega)).trans K0.out
            have B2 : Hid (Below M W w2) := Lib.hid (KB.out.trans (hb2.mono (by rw [KS.out]; omega)))
            have Y2 := Lib.hid z0
            have S2 : Hid (M < w2.heap.size) := Lib.hid (by have := hb2.size; rw [KS.out] at this; omega)
            obtain ⟨q0, q1, q2, q3, q4⟩ := cells5 z1
            obtain ⟨r0, r1, r2, r3, r4⟩ := cells5 z0
            clear hb2 z1 z0 c0 c1 c2 c3 c4 y0 y1 y2 y3 y4 ke
            go_wp2_with fail
            go_roundw
            case rel => exact ⟨1, by omega, by go_num, by first | exact congrArg Value.string NX.out | (rw [← NX.out]; rfl), B2, Y2, S2⟩
            case measure => simp [intOf]
      by_cases h1 : k = 1
      · subst h1
        obtain ⟨c0, c1, c2, c3, c4⟩ := FB.out wr HBe.out
        have ke := IB.out (wr.alloc (.cells #[.int .i64 b1, .string b2, .int .i64 b3, .int .i64 b4, .slice b5 b6 b7] 57)) (HBe.out.alloc (Nat.le_of_lt hMr) _)
        have KY := Lib.hid (box5 wr (.int .i64 b1) (.string b2) (.int .i64 b3) (.int .i64 b4) (.slice b5 b6 b7) 57)
        have KB := Lib.hid (HBe.out.alloc (Nat.le_of_lt hMr) (.cells #[.int .i64 b1, .string b2, .int .i64 b3, .int .i64 b4, .slice b5 b6 b7] 57))
        have KS : Hid ((wr.alloc (.cells #[.int .i64 b1, .string b2, .int .i64 b3, .int .i64 b4, .slice b5 b6 b7] 57)).heap.size = wr.heap.size + 1) := Lib.hid (by simp)
        have K0 : Hid ((wr.alloc (.cells #[.int .i64 b1, .string b2, .int .i64 b3, .int .i64 b4, .slice b5 b6 b7] 57)).heap[M]? = some (.cells #[.int .i64 0, .string ⟨#[]⟩, .int .i64 0, .int .i64 o, .slice (some ⟨g, 0, none⟩) 2 k7] 57 (0, 0))) := Lib.hid ((((Below.refl wr.heap.size wr).alloc (Nat.le_refl _) _).block M hMr).trans HY.out)
        obtain ⟨y0, y1, y2, y3, y4⟩ := cells5 HY.out
        have hz := OZ.out 0
        have hz1 := OZ.out 1
        have hz2 := OZ.out 2
        have hzk := sbz
        cases b with
        | leaf tl =>
          obtain ⟨hv, _⟩ := XB.out
          cases hv
          have WR : wrapB o 1 (.leaf tl) = false := rfl
          generalize exprT (.leaf tl) = kt at *
          have NX : Hid (oT 1 ++ ⟨#[32]⟩ ++ sg ++ ⟨#[32]⟩ ++ (kt) = oT 2) := Lib.hid (by rw [O2.out, WR]; rfl)
          clear WR
          generalize oT 1 = o1 at *
          go_wp2_with fail
          refine ke.mono ?_
          generalize World.alloc wr _ = Wk at *
          rintro e w2 ⟨rfl, hb2⟩
          have z1 := (hb2.block wr.heap.size (by rw [KS.out]; omega)).trans KY.out
          have z0 := (hb2.block M (by rw [KS.out]; omega)).trans K0.out
          have B2 : Hid (Below M W w2) := Lib.hid (KB.out.trans (hb2.mono (by rw [KS.out]; omega)))
          have Y2 := Lib.hid z0
          have S2 : Hid (M < w2.heap.size) := Lib.hid (by have := hb2.size; rw [KS.out] at this; omega)
          obtain ⟨q0, q1, q2, q3, q4⟩ := cells5 z1
          obtain ⟨r0, r1, r2, r3, r4⟩ := cells5 z0
          clear hb2 z1 z0 c0 c1 c2 c3 c4 y0 y1 y2 y3 y4 ke
          go_wp2_with fail
          refine (CS.out w2 B2.out).mono ?_
          rintro e w' ⟨rfl, rfl⟩
          go_wp2_with fail
          go_roundw
          case rel => exact ⟨2, by omega, by go_num, by first | exact congrArg Value.string NX.out | (rw [← NX.out]; rfl), B2, Y2, S2⟩
          case measure => simp [intOf]
        | op p ka kb =>
          obtain ⟨g', c', va', vb', hv, hp, _⟩ := XB.out
          cases hv
          rcases op_cases hp with ⟨u0, u1, um⟩ | ⟨u0, u1, um⟩ | ⟨u0, u1, um⟩
          · have WR : wrapB o 1 (.op p ka kb) = true := by rw [wrap_op _ _ _ _ _ ho hp, um, tm]; rfl
            generalize exprT (.op p ka kb) = kt at *
            have NX : Hid (oT 1 ++ ⟨#[32]⟩ ++ sg ++ ⟨#[32]⟩ ++ (⟨#[40]⟩ ++ kt ++ ⟨#[41]⟩) = oT 2) := Lib.hid (by rw [O2.out, WR]; rfl)
            clear WR
            generalize oT 1 = o1 at *
            go_wp2_with fail
            refine ke.mono ?_
            generalize World.alloc wr _ = Wk at *
            rintro e w2 ⟨rfl, hb2⟩
            have z1 := (hb2.block wr.heap.size (by rw [KS.out]; omega)).trans KY.out
            have z0 := (hb2.block M (by rw [KS.out]; omega)).trans K0.out
            have B2 : Hid (Below M W w2) := Lib.hid (KB.out.trans (hb2.mono (by rw [KS.out]; omega)))
            have Y2 := Lib.hid z0
            have S2 : Hid (M < w2.heap.size) := Lib.hid (by have := hb2.size; rw [KS.out] at this; omega)
            obtain ⟨q0, q1, q2, q3, q4⟩ := cells5 z1
            obtain ⟨r0, r1, r2, r3, r4⟩ := cells5 z0
            clear hb2 z1 z0 c0 c1 c2 c3 c4 y0 y1 y2 y3 y4 ke
            go_wp2_with fail
            refine (CS.out w2 B2.out).mono ?_
            rintro e w' ⟨rfl, rfl⟩
            go_wp2_with fail
            go_roundw
            case rel => exact ⟨2, by omega, by go_num, by first | exact congrArg Value.string NX.out | (rw [← NX.out]; rfl), B2, Y2, S2⟩
            case measure => simp [intOf]
          · have WR : wrapB o 1 (.op p ka kb) = true := by rw [wrap_op _ _ _ _ _ ho hp, um, tm]; rfl
            generalize exprT (.op p ka kb) = kt at *
            have NX : Hid (oT 1 ++ ⟨#[32]⟩ ++ sg ++ ⟨#[32]⟩ ++ (⟨#[40]⟩ ++ kt ++ ⟨#[41]⟩) = oT 2) := Lib.hid (by rw [O2.out, WR]; rfl)
            clear WR
            generalize oT 1 = o1 at *
            go_wp2_with fail
            refine ke.mono ?_
            generalize World.alloc wr _ = Wk at *
            rintro e w2 ⟨rfl, hb2⟩
            have z1 := (hb2.block wr.heap.size (by rw [KS.out]; omega)).trans KY.out
            have z0 := (hb2.block M (by rw [KS.out]; omega)).trans K0.out
            have B2 : Hid (Below M W w2) := Lib.hid (KB.out.trans (hb2.mono (by rw [KS.out]; omega)))
            have Y2 := Lib.hid z0
            have S2 : Hid (M < w2.heap.size) := Lib.hid (by have := hb2.size; rw [KS.out] at this; omega)
            obtain ⟨q0, q1, q2, q3, q4⟩ := cells5 z1
            obtain ⟨r0, r1, r2, r3, r4⟩ := cells5 z0
            clear hb2 z1 z0 c0 c1 c2 c3 c4 y0 y1 y2 y3 y4 ke
            go_wp2_with fail
            refine (CS.out w2 B2.out).mono ?_
            rintro e w' ⟨rfl, rfl⟩
            go_wp2_with fail
            go_roundw
            case rel => exact ⟨2, by omega, by go_num, by first | exact congrArg Value.string NX.out | (rw [← NX.out]; rfl), B2, Y2, S2⟩
            case measure => simp [intOf]
          · have WR : wrapB o 1 (.op p ka kb) = false := by rw [wrap_op _ _ _ _ _ ho hp, um, tm]; rfl
            generalize exprT (.op p ka kb) = kt at *
            have NX : Hid (oT 1 ++ ⟨#[32]⟩ ++ sg ++ ⟨#[32]⟩ ++ (kt) = oT 2) := Lib.hid (by rw [O2.out, WR]; rfl)
            clear WR
            generalize oT 1 = o1 at *
            go_wp2_with fail
            refine ke.mono ?_
            generalize World.alloc wr _ = Wk at *
            rintro e w2 ⟨rfl, hb2⟩
            have z1 := (hb2.block wr.heap.size (by rw [KS.out]; omega)).trans KY.out
            have z0 := (hb2.block M (by rw [KS.out]; omega)).trans K0.out
            have B2 : Hid (Below M W w2) := Lib.hid (KB.out.trans (hb2.mono (by rw [KS.out]; omega)))
            have Y2 := Lib.hid z0
            have S2 : Hid (M < w2.heap.size) := Lib.hid (by have := hb2.size; rw [KS.out] at this; omega)
            obtain ⟨q0, q1, q2, q3, q4⟩ := cells5 z1
            obtain ⟨r0, r1, r2, r3, r4⟩ := cells5 z0
            clear hb2 z1 z0 c0 c1 c2 c3 c4 y0 y1 y2 y3 y4 ke
            go_wp2_with fail
            refine (CS.out w2 B2.out).mono ?_
            rintro e w' ⟨rfl, rfl⟩
            go_wp2_with fail
            go_roundw
            case rel => exact ⟨2, by omega, by go_num, by first | exact congrArg Value.string NX.out | (rw [← NX.out]; rfl), B2, Y2, S2⟩
            case measure => simp [intOf]
      obtain rfl : k = 2 := by omega
      go_wp2_with fail
      go_ret
      exact ⟨ret_s OF.out.symm, by rw [HM.out]; exact HBe.out⟩
  · go_wp2_with fail
    go_loopw [3, 27] (fun v i wr => ∃ k : Nat, k ≤ 2 ∧ i = .int .i64 k ∧ v = .string (oT k) ∧ Hid (Below M W wr) ∧ Hid (wr.heap[M]? = some (.cells #[.int .i64 0, .string ⟨#[]⟩, .int .i64 0, .int .i64 o, .slice (some ⟨g, 0, none⟩) 2 k7] 57 (0, 0))) ∧ Hid (M < wr.heap.size)) (fun _ i _ => 2 - (intOf i).toNat)
    case atStart => exact ⟨0, by omega, rfl, by rw [OE.out], BL, Y0, Lib.hid (by rw [SZ.out]; omega)⟩
    case round =>
      obtain ⟨k, hk, rfl, rfl, HBe, HY, HS⟩ := hrel
      have hMr := HS.out
      by_cases h0 : k = 0
      · subst h0
        obtain ⟨c0, c1, c2, c3, c4⟩ := FA.out wr HBe.out
        have ke := IA.out (wr.alloc (.cells #[.int .i64 a1, .string a2, .int .i64 a3, .int .i64 a4, .slice a5 a6 a7] 57)) (HBe.out.alloc (Nat.le_of_lt hMr) _)
        have KY := Lib.hid (box5 wr (.int .i64 a1) (.string a2) (.int .i64 a3) (.int .i64 a4) (.slice a5 a6 a7) 57)
        have KB := Lib.hid (HBe.out.alloc (Nat.le_of_lt hMr) (.cells #[.int .i64 a1, .string a2, .int .i64 a3, .int .i64 a4, .slice a5 a6 a7] 57))
        have KS : Hid ((wr.alloc (.cells #[.int .i64 a1, .string a2, .int .i64 a3, .int .i64 a4, .slice a5 a6 a7] 57)).heap.size = wr.heap.size + 1) := Lib.hid (by simp)
        have K0 : Hid ((wr.alloc (.cells #[.int .i64 a1, .string a2, .int .i64 a3, .int .i64 a4, .slice a5 a6 a7] 57)).heap[M]? = some (.cells #[.int .i64 0, .string ⟨#[]⟩, .int .i64 0, .int .i64 o, .slice (some ⟨g, 0, none⟩) 2 k7] 57 (0, 0))) := Lib.hid ((((Below.refl wr.heap.size wr).alloc (Nat.le_refl _) _).block M hMr).trans HY.out)
        obtain ⟨y0, y1, y2, y3, y4⟩ := cells5 HY.out
        have hz := OZ.out 0
        have hz1 := OZ.out 1
        have hz2 := OZ.out 2
        have hzk := saz
        cases a with
        | leaf tl =>
          obtain ⟨hv, _⟩ := XA.out
          cases hv
          have WR : wrapB o 0 (.leaf tl) = false := rfl
          generalize exprT (.leaf tl) = kt at *
          have NX : Hid (oT 0 ++ (kt) = oT 1) := Lib.hid (by rw [O1.out, WR, OE.out, emp_app]; rfl)
          clear WR
          generalize oT 0 = o1 at *
          go_wp2_with fail
          refine ke.mono ?_
          generalize World.alloc wr _ = Wk at *
          rintro e w2 ⟨rfl, hb2⟩
          have z1 := (hb2.block wr.heap.size (by rw [KS.out]; omega)).trans KY.out
          have z0 := (hb2.block M (by rw [KS.out]; omega)).trans K0.out
          have B2 : Hid (Below M W w2) := Lib.hid (KB.out.trans (hb2.mono (by rw [KS.out]; omega)))
          have Y2 := Lib.hid z0
          have S2 : Hid (M < w2.heap.size) := Lib.hid (by have := hb2.size; rw [KS.out] at this; omega)
          obtain ⟨q0, q1, q2, q3, q4⟩ := cells5 z1
          obtain ⟨r0, r1, r2, r3, r4⟩ := cells5 z0
          clear hb2 z1 z0 c0 c1 c2 c3 c4 y0 y1 y2 y3 y4 ke
          go_wp2_with fail
          go_roundw
          case rel => exact ⟨1, by omega, by go_num, by first | exact congrArg Value.string NX.out | (rw [← NX.out]; rfl), B2, Y2, S2⟩
          case measure => simp [intOf]
        | op p ka kb =>
          obtain ⟨g', c', va', vb', hv, hp, _⟩ := XA.out
          cases hv
          rcases op_cases hp with ⟨u0, u1, um⟩ | ⟨u0, u1, um⟩ | ⟨u0, u1, um⟩
          · have WR : wrapB o 0 (.op p ka kb) = true := by rw [wrap_op _ _ _ _ _ ho hp, um, tm]; rfl
            generalize exprT (.op p ka kb) = kt at *
            have NX : Hid (oT 0 ++ (⟨#[40]⟩ ++ kt ++ ⟨#[41]⟩) = oT 1) := Lib.hid (by rw [O1.out, WR, OE.out, emp_app]; rfl)
            clear WR
            generalize oT 0 = o1 at *
            go_wp2_with fail
            refine ke.mono ?_
            generalize World.alloc wr _ = Wk at *
            rintro e w2 ⟨rfl, hb2⟩
            have z1 := (hb2.block wr.heap.size (by rw [KS.out]; omega)).trans KY.out
            have z0 := (hb2.block M (by rw [KS.out]; omega)).trans K0.out
            have B2 : Hid (Below M W w2) := Lib.hid (KB.out.trans (hb2.mono (by rw [KS.out]; omega)))
            have Y2 := Lib.hid z0
            have S2 : Hid (M < w2.heap.size) := Lib.hid (by have := hb2.size; rw [KS.out] at this; omega)
            obtain ⟨q0, q1, q2, q3, q4⟩ := cells5 z1
            obtain ⟨r0, r1, r2, r3, r4⟩ := cells5 z0
            clear hb2 z1 z0 c0 c1 c2 c3 c4 y0 y1 y2 y3 y4 ke
            go_wp2_with fail
            go_roundw
            case rel => exact ⟨1, by omega, by go_num, by first | exact congrArg Value.string NX.out | (rw [← NX.out]; rfl), B2, Y2, S2⟩
            case measure => simp [intOf]
          · have WR : wrapB o 0 (.op p ka kb) = true := by rw [wrap_op _ _ _ _ _ ho hp, um, tm]; rfl
            generalize exprT (.op p ka kb) = kt at *
            have NX : Hid (oT 0 ++ (⟨#[40]⟩ ++ kt ++ ⟨#[41]⟩) = oT 1) := Lib.hid (by rw [O1.out, WR, OE.out, emp_app]; rfl)
            clear WR
            generalize oT 0 = o1 at *
            go_wp2_with fail
            refine ke.mono ?_
            generalize World.alloc wr _ = Wk at *
            rintro e w2 ⟨rfl, hb2⟩
            have z1 := (hb2.block wr.heap.size (by rw [KS.out]; omega)).trans KY.out
            have z0 := (hb2.block M (by rw [KS.out]; omega)).trans K0.out
            have B2 : Hid (Below M W w2) := Lib.hid (KB.out.trans (hb2.mono (by rw [KS.out]; omega)))
            have Y2 := Lib.hid z0
            have S2 : Hid (M < w2.heap.size) := Lib.hid (by have := hb2.size; rw [KS.out] at this; omega)
            obtain ⟨q0, q1, q2, q3, q4⟩ := cells5 z1
            obtain ⟨r0, r1, r2, r3, r4⟩ := cells5 z0
            clear hb2 z1 z0 c0 c1 c2 c3 c4 y0 y1 y2 y3 y4 ke
            go_wp2_with fail
            go_roundw
            case rel => exact ⟨1, by omega, by go_num, by first | exact congrArg Value.string NX.out | (rw [← NX.out]; rfl), B2, Y2, S2⟩
            case measure => simp [intOf]
          · have WR : wrapB o 0 (.op p ka kb) = false := by rw [wrap_op _ _ _ _ _ ho hp, um, tm]; rfl
            generalize exprT (.op p ka kb) = kt at *
            have NX : Hid (oT 0 ++ (kt) = oT 1) := Lib.hid (by rw [O1.out, WR, OE.out, emp_app]; rfl)
            clear WR
            generalize oT 0 = o1 at *
            go_wp2_with fail
            refine ke.mono ?_
            generalize World.alloc wr _ = Wk at *
            rintro e w2 ⟨rfl, hb2⟩
            have z1 := (hb2.block wr.heap.size (by rw [KS.out]; omega)).trans KY.out
            have z0 := (hb2.block M (by rw [KS.out]; omega)).trans K0.out
            have B2 : Hid (Below M W w2) := Lib.hid (KB.out.trans (hb2.mono (by rw [KS.out]; omega)))
            have Y2 := Lib.hid z0
            have S2 : Hid (M < w2.heap.size) := Lib.hid (by have := hb2.size; rw [KS.out] at this; omega)
            obtain ⟨q0, q1, q2, q3, q4⟩ := cells5 z1
            obtain ⟨r0, r1, r2, r3, r4⟩ := cells5 z0
            clear hb2 z1 z0 c0 c1 c2 c3 c4 y0 y1 y2 y3 y4 ke
            go_wp2_with fail
            go_roundw
            case rel => exact ⟨1, by omega, by go_num, by first | exact congrArg Value.string NX.out | (rw [← NX.out]; rfl), B2, Y2, S2⟩
            case measure => simp [intOf]
      by_cases h1 : k = 1
      · subst h1
        obtain ⟨c0, c1, c2, c3, c4⟩ := FB.out wr HBe.out
        have ke := IB.out (wr.alloc (.cells #[.int .i64 b1, .string b2, .int .i64 b3, .int .i64 b4, .slice b5 b6 b7] 57)) (HBe.out.alloc (Nat.le_of_lt hMr) _)
        have KY := Lib.hid (box5 wr (.int .i64 b1) (.string b2) (.int .i64 b3) (.int .i64 b4) (.slice b5 b6 b7) 57)
        have KB := Lib.hid (HBe.out.alloc (Nat.le_of_lt hMr) (.cells #[.int .i64 b1, .string b2, .int .i64 b3, .int .i64 b4, .slice b5 b6 b7] 57))
        have KS : Hid ((wr.alloc (.cells #[.int .i64 b1, .string b2, .int .i64 b3, .int .i64 b4, .slice b5 b6 b7] 57)).heap.size = wr.heap.size + 1) := Lib.hid (by simp)
        have K0 : Hid ((wr.alloc (.cells #[.int .i64 b1, .string b2, .int .i64 b3, .int .i64 b4, .slice b5 b6 b7] 57)).heap[M]? = some (.cells #[.int .i64 0, .string ⟨#[]⟩, .int .i64 0, .int .i64 o, .slice (some ⟨g, 0, none⟩) 2 k7] 57 (0, 0))) := Lib.hid ((((Below.refl wr.heap.size wr).alloc (Nat.le_refl _) _).block M hMr).trans HY.out)
        obtain ⟨y0, y1, y2, y3, y4⟩ := cells5 HY.out
        have hz := OZ.out 0
        have hz1 := OZ.out 1
        have hz2 := OZ.out 2
        have hzk := sbz
        cases b with
        | leaf tl =>
          obtain ⟨hv, _⟩ := XB.out
          cases hv
          have WR : wrapB o 1 (.leaf tl) = false := rfl
          generalize exprT (.leaf tl) = kt at *
          have NX : Hid (oT 1 ++ ⟨#[32]⟩ ++ sg ++ ⟨#[32]⟩ ++ (kt) = oT 2) := Lib.hid (by rw [O2.out, WR]; rfl)
          clear WR
          generalize oT 1 = o1 at *
          go_wp2_with fail
          refine ke.mono ?_
          generalize World.alloc wr _ = Wk at *
          rintro e w2 ⟨rfl, hb2⟩
          have z1 := (hb2.block wr.heap.size (by rw [KS.out]; omega)).trans KY.out
          have z0 := (hb2.block M (by rw [KS.out]; omega)).trans K0.out
          have B2 : Hid (Below M W w2) := Lib.hid (KB.out.trans (hb2.mono (by rw [KS.out]; omega)))
          have Y2 := Lib.hid z0
          have S2 : Hid (M < w2.heap.size) := Lib.hid (by have := hb2.size; rw [KS.out] at this; omega)
          obtain ⟨q0, q1, q2, q3, q4⟩ := cells5 z1
          obtain ⟨r0, r1, r2, r3, r4⟩ := cells5 z0
          clear hb2 z1 z0 c0 c1 c2 c3 c4 y0 y1 y2 y3 y4 ke
          go_wp2_with fail
          refine (CS.out w2 B2.out).mono ?_
          rintro e w' ⟨rfl, rfl⟩
          go_wp2_with fail
          go_roundw
          case rel => exact ⟨2, by omega, by go_num, by first | exact congrArg Value.string NX.out | (rw [← NX.out]; rfl), B2, Y2, S2⟩
          case measure => simp [intOf]
        | op p ka kb =>
          obtain ⟨g', c', va', vb', hv, hp, _⟩ := XB.out
          cases hv
          rcases op_cases hp with ⟨u0, u1, um⟩ | ⟨u0, u1, um⟩ | ⟨u0, u1, um⟩
          · have WR : wrapB o 1 (.op p ka kb) = true := by rw [wrap_op _ _ _ _ _ ho hp, um, tm]; rfl
            generalize exprT (.op p ka kb) = kt at *
            have NX : Hid (oT 1 ++ ⟨#[32]⟩ ++ sg ++ ⟨#[32]⟩ ++ (⟨#[40]⟩ ++ kt ++ ⟨#[41]⟩) = oT 2) := Lib.hid (by rw [O2.out, WR]; rfl)
            clear WR
            generalize oT 1 = o1 at *
            go_wp2_with fail
            refine ke.mono ?_
            generalize World.alloc wr _ = Wk at *
            rintro e w2 ⟨rfl, hb2⟩
            have z1 := (hb2.block wr.heap.size (by rw [KS.out]; omega)).trans KY.out
            have z0 := (hb2.block M (by rw [KS.out]; omega)).trans K0.out
            have B2 : Hid (Below M W w2) := Lib.hid (KB.out.trans (hb2.mono (by rw [KS.out]; omega)))
            have Y2 := Lib.hid z0
            have S2 : Hid (M < w2.heap.size) := Lib.hid (by have := hb2.size; rw [KS.out] at this; omega)
            obtain ⟨q0, q1, q2, q3, q4⟩ := cells5 z1
            obtain ⟨r0, r1, r2, r3, r4⟩ := cells5 z0
            clear hb2 z1 z0 c0 c1 c2 c3 c4 y0 y1 y2 y3 y4 ke
            go_wp2_with fail
            refine (CS.out w2 B2.out).mono ?_
            rintro e w' ⟨rfl, rfl⟩
            go_wp2_with fail
            go_roundw
            case rel => exact ⟨2, by omega, by go_num, by first | exact congrArg Value.string NX.out | (rw [← NX.out]; rfl), B2, Y2, S2⟩
            case measure => simp [intOf]
          · have WR : wrapB o 1 (.op p ka kb) = true := by rw [wrap_op _ _ _ _ _ ho hp, um, tm]; rfl
            generalize exprT (.op p ka kb) = kt at *
            have NX : Hid (oT 1 ++ ⟨#[32]⟩ ++ sg ++ ⟨#[32]⟩ ++ (⟨#[40]⟩ ++ kt ++ ⟨#[41]⟩) = oT 2) := Lib.hid (by rw [O2.out, WR]; rfl)
            clear WR
            generalize oT 1 = o1 at *
            go_wp2_with fail
            refine ke.mono ?_
            generalize World.alloc wr _ = Wk at *
            rintro e w2 ⟨rfl, hb2⟩
            have z1 := (hb2.block wr.heap.size (by rw [KS.out]; omega)).trans KY.out
            have z0 := (hb2.block M (by rw [KS.out]; omega)).trans K0.out
            have B2 : Hid (Below M W w2) := Lib.hid (KB.out.trans (hb2.mono (by rw [KS.out]; omega)))
            have Y2 := Lib.hid z0
            have S2 : Hid (M < w2.heap.size) := Lib.hid (by have := hb2.size; rw [KS.out] at this; omega)
            obtain ⟨q0, q1, q2, q3, q4⟩ := cells5 z1
            obtain ⟨r0, r1, r2, r3, r4⟩ := cells5 z0
            clear hb2 z1 z0 c0 c1 c2 c3 c4 y0 y1 y2 y3 y4 ke
            go_wp2_with fail
            refine (CS.out w2 B2.out).mono ?_
            rintro e w' ⟨rfl, rfl⟩
            go_wp2_with fail
            go_roundw
            case rel => exact ⟨2, by omega, by go_num, by first | exact congrArg Value.string NX.out | (rw [← NX.out]; rfl), B2, Y2, S2⟩
            case measure => simp [intOf]
          · have WR : wrapB o 1 (.op p ka kb) = true := by rw [wrap_op _ _ _ _ _ ho hp, um, tm]; rfl
            generalize exprT (.op p ka kb) = kt at *
            have NX : Hid (oT 1 ++ ⟨#[32]⟩ ++ sg ++ ⟨#[32]⟩ ++ (⟨#[40]⟩ ++ kt ++ ⟨#[41]⟩) = oT 2) := Lib.hid (by rw [O2.out, WR]; rfl)
            clear WR
            generalize oT 1 = o1 at *
            go_wp2_with fail
            refine ke.mono ?_
            generalize World.alloc wr _ = Wk at *
            rintro e w2 ⟨rfl, hb2⟩
            have z1 := (hb2.block wr.heap.size (by rw [KS.out]; omega)).trans KY.out
            have z0 := (hb2.block M (by rw [KS.out]; omega)).trans K0.out
            have B2 : Hid (Below M W w2) := Lib.hid (KB.out.trans (hb2.mono (by rw [KS.out]; omega)))
            have Y2 := Lib.hid z0
            have S2 : Hid (M < w2.heap.size) := Lib.hid (by have := hb2.size; rw [KS.out] at this; omega)
            obtain ⟨q0, q1, q2, q3, q4⟩ := cells5 z1
            obtain ⟨r0, r1, r2, r3, r4⟩ := cells5 z0
            clear hb2 z1 z0 c0 c1 c2 c3 c4 y0 y1 y2 y3 y4 ke
            go_wp2_with fail
            refine (CS.out w2 B2.out).mono ?_
            rintro e w' ⟨rfl, rfl⟩
            go_wp2_with fail
            go_roundw
            case rel => exact ⟨2, by omega, by go_num, by first | exact congrArg Value.string NX.out | (rw [← NX.out]; rfl), B2, Y2, S2⟩
            case measure => simp [intOf]
      obtain rfl : k = 2 := by omega
      go_wp2_with fail
      go_ret
      exact ⟨ret_s OF.out.symm, by rw [HM.out]; exact HBe.out⟩
end Go.Proofs.YtaglbeokecbihaaDoor
