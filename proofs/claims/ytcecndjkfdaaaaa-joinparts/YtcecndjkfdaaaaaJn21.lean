/- JoinTurned, walked. -/
import Derived.Test.YtcecndjkfdaaaaaJn20
namespace Go.Proofs.Ytcecndjkfdaaaaa
open Go.RowKit Go.Shelf
set_option linter.unusedVariables false
set_option linter.unusedSimpArgs false

theorem PRow.belowB {w w' : World} {B : Nat} {a : Option Addr} {ps : List (Int × Int)} (h : PRow w a ps) (hB : w.heap.size = B) (hb : Below B w w') : PRow w' a ps := by subst hB; exact h.below hb
theorem JS.belowB {B C : Nat} {w W W' : World} {wi wj : Int} {a b c d : Option Addr} {A D : List RV} {KA KB : List Int} {ca cb cc cd : Nat} (h : JS B w W wi wj a b c d A D KA KB ca cb cc cd) (hC : W.heap.size = C) (hb : Below C W W') : JS B w W' wi wj a b c d A D KA KB ca cb cc cd := by subst hC; exact h.next hb
theorem atP_mem {ps : List (Int × Int)} {k : Nat} (h : k < ps.length) : atP ps k ∈ ps := by simp [atP, h]
theorem mem_atP {ps : List (Int × Int)} {x : Int × Int} (h : x ∈ ps) : ∃ r, r < ps.length ∧ atP ps r = x := by
  obtain ⟨r, hr, e⟩ := List.getElem_of_mem h
  exact ⟨r, hr, by simp [atP, hr, e]⟩
/-- Is the pair among the first m? -/
def FB (qs : List (Int × Int)) (x : Int × Int) (m : Nat) (b : Bool) : Prop := b = true ↔ ∃ r, r < m ∧ atP qs r = x
theorem FB.zero (qs : List (Int × Int)) (x : Int × Int) : FB qs x 0 false := by unfold FB; simp
theorem FB.keep {qs : List (Int × Int)} {x : Int × Int} {m : Nat} (h : FB qs x m true) : FB qs x (m + 1) true := by
  obtain ⟨r, hr, e⟩ := h.1 rfl
  exact ⟨fun _ => ⟨r, by omega, e⟩, fun _ => rfl⟩
theorem FB.hit {qs : List (Int × Int)} {x : Int × Int} {m : Nat} (e : atP qs m = x) : FB qs x (m + 1) true := ⟨fun _ => ⟨m, by omega, e⟩, fun _ => rfl⟩
theorem FB.miss {qs : List (Int × Int)} {x : Int × Int} {m : Nat} (h : FB qs x m false) (e : atP qs m ≠ x) : FB qs x (m + 1) false := by
  refine ⟨(fun h => by cases h), ?_⟩
  rintro ⟨r, hr, e2⟩
  rcases Nat.lt_succ_iff_lt_or_eq.1 hr with h1 | h1
  · exact h.2 ⟨r, h1, e2⟩
  · subst h1; exact absurd e2 e
theorem atP_diag {n k : Nat} (h : k < n) : atP ((List.range n).map fun (i : Nat) => ((i : Int), (i : Int))) k = ((k : Int), (k : Int)) := by simp [atP, h]
set_option maxRecDepth 100000 in
set_option maxHeartbeats 8000000 in
theorem joinTurned_walk {w : World} {a b c d : Option Addr} {A D : List RV} {KA KB : List Int} (wi wj : Int) (ca cb cc cd : Nat) (hS : SideArgs w a b c d A D KA KB) :
    Calls Try.prog 5 #[sidesV wi wj a b c d A D KA KB ca cb cc cd] w (TrueRet5 w) := by
  obtain ⟨i1, hi, hz0, hz1, hz2⟩ := info_parts info3
  have I' := Lib.hid hi
  have Z0' := Lib.hid hz0
  have Z1' := Lib.hid hz1
  have Z2' := Lib.hid hz2
  clear hi hz0 hz1 hz2
  obtain ⟨B, hB⟩ : ∃ B, w.heap.size = B := ⟨_, rfl⟩
  have HB := Lib.hid hB
  have HS := Lib.hid hS
  have J0 := Lib.hid (JS.new hB wi wj ca cb cc cd hS)
  unfold sidesV
  go_enter Try.func5, Try.ntmps5
  go_wp2_with fail
  clear hB hS
  generalize World.alloc w _ = W0 at *
  refine (head8_calls W0).mono ?_
  rintro e W1 ⟨rfl, hb1⟩
  have J1 := Lib.hid (J0.out.next hb1)
  clear hb1 J0
  obtain ⟨c0, c1, c2, c3, c4, c5, _⟩ := J1.out.box
  go_wp2_with fail
  have cf := sidesFew_calls (KA := KA) (KB := KB) (c := c) (d := d) wi wj ca cb cc cd HS.out.hA HS.out.hD HB.out J1.out.bel (Nat.le_of_lt J1.out.box.lt)
  unfold sidesV at cf
  clear c0 c1 c2 c3 c4 c5
  cases hf : sidesFew A D KA KB
  · rw [hf] at cf
    refine cf.mono ?_
    rintro e W2 ⟨rfl, hb2⟩
    have J2 := Lib.hid (J1.out.next hb2)
    clear hb2 J1 cf
    go_wp2_with fail
    go_ret
    exact ⟨rfl, by rw [HB.out]; exact J2.out.bel⟩
  · rw [hf] at cf
    refine cf.mono ?_
    rintro e W2 ⟨rfl, hb2⟩
    have J2 := Lib.hid (J1.out.next hb2)
    obtain ⟨fA, fD, hka, hkb⟩ := sidesFew_true hf
    clear hb2 J1 cf hf
    obtain ⟨c0, c1, c2, c3, c4, c5, _⟩ := J2.out.box
    obtain ⟨n1, hn1, e1⟩ := width5 wi
    obtain ⟨n2, hn2, e2⟩ := width5 wj
    go_wp2_with fail
    have cm := sidesMake_calls (KA := KA) (KB := KB) (c := c) (d := d) wi wj n1 n2 hn1 hn2 e1 e2 ca cb cc cd HS.out.hA HS.out.hD HB.out J2.out.bel (Nat.le_of_lt J2.out.box.lt) (few_ok fA) (few_ok fD)
    unfold sidesV at cm
    clear c0 c1 c2 c3 c4 c5 e1 e2
    generalize relOf (n1 : Int) (A.map (·.2.1)) = xs at *
    generalize relOf (n2 : Int) (D.map (·.2.1)) = ys at *
    refine cm.mono ?_
    rintro e W3 ⟨p, o, rfl, hp3, ho3, hb3⟩
    have J3 := Lib.hid (J2.out.next hb3)
    have P3 := Lib.hid hp3
    have O3 := Lib.hid ho3
    have hxl : xs.length ≤ 60 := hp3.2
    have hyl : ys.length ≤ 60 := ho3.2
    have PL : Hid ((pairsOf (xs.map fun r => keyL r KA) (ys.map fun r => keyL r KB)).length ≤ 3600) := Lib.hid (pairs_le (by simpa using hxl) (by simpa using hyl))
    have KL : Hid ((xs.map fun r => keyL r KA).length = xs.length) := Lib.hid (by simp)
    clear hp3 ho3 hb3 J2 cm
    obtain ⟨c0, c1, c2, c3, c4, c5, _⟩ := J3.out.box
    have ch := hash_join P3.out.1 O3.out.1 c d cc cd KA KB J3.out.ka J3.out.kb (by omega) (by omega) (by omega) (by omega) (by omega) (by omega)
    go_wp2_with fail
    refine ch.mono ?_
    rintro e W4 ⟨ta, tc, rfl, hr4, hb4⟩
    have J4 := Lib.hid (J3.out.next hb4)
    have P4 := Lib.hid (P3.out.below hb4)
    have O4 := Lib.hid (O3.out.below hb4)
    have T4 := Lib.hid hr4
    clear hr4 hb4 J3 P3 O3 ch c0 c1 c2 c3 c4 c5
    obtain ⟨c0, c1, c2, c3, c4, c5, _⟩ := J4.out.box
    have cg := merge_join O4.out.1 P4.out.1 d c cd cc KB KA J4.out.kb J4.out.ka (by omega) (by omega) (by omega) (by omega) (by omega) (by omega)
    go_wp2_with fail
    refine cg.mono ?_
    rintro e W5 ⟨ba, bc, rfl, hr5, hb5⟩
    have J5 := Lib.hid (J4.out.next hb5)
    have P5 := Lib.hid (P4.out.below hb5)
    have T5 := Lib.hid (T4.out.below hb5)
    have U5 := Lib.hid hr5
    clear hr5 hb5 J4 P4 O4 T4 cg c0 c1 c2 c3 c4 c5
    have LE := Lib.hid (pairs_len_swap (xs.map fun r => keyL r KA) (ys.map fun r => keyL r KB))
    have SWP := Lib.hid (fun x => pairs_swap (kas := xs.map fun r => keyL r KA) (kbs := ys.map fun r => keyL r KB) (x := x))
    generalize (xs.map fun r => keyL r KA) = kas at *
    generalize (ys.map fun r => keyL r KB) = kbs at *
    generalize pairsOf kas kbs = ps at *
    generalize pairsOf kbs kas = qs at *
    have hpl := PL.out
    rw [← LE.out]
    obtain ⟨C, hC⟩ : ∃ C, W5.heap.size = C := ⟨_, rfl⟩
    have HC := Lib.hid hC
    clear hC
    go_wp2_with fail
    go_loopw [47] (fun s wr => ∃ k : Nat, k ≤ ps.length ∧ s = .int .i64 k ∧ Hid (Below C W5 wr)) (fun s _ => ps.length - (intOf s).toNat)
    case atStart => exact ⟨0, Nat.zero_le _, rfl, Lib.hid (Below.refl _ _)⟩
    case round =>
      obtain ⟨k, hk, rfl, HL⟩ := hrel
      obtain ⟨X, rfl⟩ : ∃ x, x = wr := ⟨wr, rfl⟩
      have hCX : C ≤ X.heap.size := by have := HL.out.size; rw [HC.out] at this; exact this
      by_cases hlt : k < ps.length
      · obtain ⟨qb, qo, rfl, _, hp1, hp2⟩ := (T5.out.belowB HC.out HL.out).at hlt
        have HX := Lib.hid (SWP.out _ (atP_mem hlt))
        generalize (atP ps k).1 = px at *
        generalize (atP ps k).2 = py at *
        have L6 := Lib.hid (HL.out.alloc hCX (.cells #[.int .i64 px, .int .i64 py] 36))
        obtain ⟨g8, hg8⟩ : ∃ g, X.heap.size = g := ⟨_, rfl⟩
        have E0 : Hid ((X.alloc (.cells #[.int .i64 px, .int .i64 py] 36)).cell? ⟨g8, 0, none⟩ = some (.int .i64 px) ∧ (X.alloc (.cells #[.int .i64 px, .int .i64 py] 36)).cell? ⟨g8, 1, none⟩ = some (.int .i64 py)) := Lib.hid (by subst hg8; exact ⟨by go_simp, by go_simp⟩)
        have SZ : Hid ((X.alloc (.cells #[.int .i64 px, .int .i64 py] 36)).heap.size = g8 + 1) := Lib.hid (by simp [hg8])
        have hCg : C ≤ g8 := by omega
        go_wp2_with fail
        clear hg8 hp1 hp2
        generalize World.alloc X _ = W6 at *
        go_loopw [53, 9] (fun s f wr => ∃ (m : Nat) (fb : Bool), m ≤ ps.length ∧ s = .int .i64 m ∧ f = .bool fb ∧ Hid (FB qs (py, px) m fb) ∧ Hid (Below (g8 + 1) W6 wr)) (fun s _ _ => ps.length - (intOf s).toNat)
        case atStart => exact ⟨0, false, Nat.zero_le _, rfl, rfl, Lib.hid (FB.zero _ _), Lib.hid (Below.refl _ _)⟩
        case round =>
          obtain ⟨m, fb, hm, rfl, rfl, HF, HM⟩ := hrel
          obtain ⟨Y, rfl⟩ : ∃ x, x = wr := ⟨wr, rfl⟩
          have hgY : g8 + 1 ≤ Y.heap.size := by have := HM.out.size; rw [SZ.out] at this; exact this
          by_cases hmt : m < ps.length
          · have LY : Hid (Below C W5 Y) := Lib.hid (L6.out.trans (HM.out.mono (by omega)))
            obtain ⟨rb, ro, rfl, _, hq1, hq2⟩ := (U5.out.belowB HC.out LY.out).at (i := m) (by have := LE.out; omega)
            have k0 : Y.cell? ⟨g8, 0, none⟩ = some (.int .i64 px) := (HM.out.cell (p := ⟨g8, 0, none⟩) (by simp)).trans E0.out.1
            have k1 : Y.cell? ⟨g8, 1, none⟩ = some (.int .i64 py) := (HM.out.cell (p := ⟨g8, 1, none⟩) (by simp)).trans E0.out.2
            have gne : ¬ g8 = Y.heap.size := by omega
            have gne2 : ¬ Y.heap.size = g8 := by omega
            have HM2 := Lib.hid (HM.out.alloc hgY (.cells #[.int .i64 (atP qs m).1, .int .i64 (atP qs m).2] 36))
            obtain ⟨z, hz⟩ : ∃ z, atP qs m = z := ⟨_, rfl⟩
            have HZ := Lib.hid hz
            rw [hz] at hq1 hq2 HM2
            clear hz
            obtain ⟨zx, zy⟩ := z
            simp only at hq1 hq2 HM2
            have k0' : (Y.alloc (.cells #[.int .i64 zx, .int .i64 zy] 36)).cell? ⟨g8, 0, none⟩ = some (.int .i64 px) := (((Below.refl (g8 + 1) Y).alloc hgY _).cell (p := ⟨g8, 0, none⟩) (by simp)).trans k0
            have k1' : (Y.alloc (.cells #[.int .i64 zx, .int .i64 zy] 36)).cell? ⟨g8, 1, none⟩ = some (.int .i64 py) := (((Below.refl (g8 + 1) Y).alloc hgY _).cell (p := ⟨g8, 1, none⟩) (by simp)).trans k1
            cases fb
            · by_cases h1 : zx = py
              · by_cases h2 : zy = px
                · have HF2 : Hid (FB qs (py, px) (m + 1) true) := Lib.hid (FB.hit (by rw [HZ.out, h1, h2]))
                  have t1 : (zx == py) = true := by simpa using h1
                  have t2 : (zy == px) = true := by simpa using h2
                  clear h1 h2
                  go_wp2_with fail
                  go_roundw
                  case rel => exact ⟨m + 1, true, by omega, by go_num, rfl, HF2, HM2⟩
                  case measure => simp [intOf]; omega
                · have HF2 : Hid (FB qs (py, px) (m + 1) false) := Lib.hid (HF.out.miss (by rw [HZ.out]; intro e; exact h2 (Prod.ext_iff.1 e).2))
                  have t1 : (zx == py) = true := by simpa using h1
                  have t2 : (zy == px) = false := by simpa using h2
                  clear h1 h2
                  go_wp2_with fail
                  go_roundw
                  case rel => exact ⟨m + 1, false, by omega, by go_num, rfl, HF2, HM2⟩
                  case measure => simp [intOf]; omega
              · have HF2 : Hid (FB qs (py, px) (m + 1) false) := Lib.hid (HF.out.miss (by rw [HZ.out]; intro e; exact h1 (Prod.ext_iff.1 e).1))
                have t1 : (zx == py) = false := by simpa using h1
                clear h1
                go_wp2_with fail
                go_roundw
                case rel => exact ⟨m + 1, false, by omega, by go_num, rfl, HF2, HM2⟩
                case measure => simp [intOf]; omega
            · have HF2 : Hid (FB qs (py, px) (m + 1) true) := Lib.hid HF.out.keep
              go_wp2_with fail
              go_roundw
              case rel => exact ⟨m + 1, true, by omega, by go_num, rfl, HF2, HM2⟩
              case measure => simp [intOf]; omega
          · have tm : decide (m < ps.length) = false := decide_eq_false hmt
            have hfb : fb = true := by
              obtain ⟨r, hr, e⟩ := mem_atP HX.out
              exact HF.out.2 ⟨r, by have := LE.out; omega, e⟩
            subst hfb
            have LY : Hid (Below C W5 Y) := Lib.hid (L6.out.trans (HM.out.mono (by omega)))
            go_wp2_with fail
            go_roundw
            case rel => exact ⟨k + 1, by omega, by go_num, LY⟩
            case measure => simp [intOf]; omega
      · have tl : decide (k < ps.length) = false := decide_eq_false hlt
        have PX := Lib.hid (P5.out.belowB HC.out HL.out)
        have JX := Lib.hid (J5.out.belowB HC.out HL.out)
        obtain ⟨E, hE⟩ : ∃ E, X.heap.size = E := ⟨_, rfl⟩
        have HE := Lib.hid hE
        have OW : Hid ((X.alloc (.cells #[] 3)).ownsRow E 3 1 (.slice (some ⟨E, 0, none⟩) 0 0) (allTo 0).length ((allTo 0).map (Value.int .i64))) := Lib.hid (by have := World.ownsRow_lit (base := E) (e := 3) (size := 1) X #[] 0 (Nat.le_of_eq hE.symm) (Nat.zero_le _) rfl; rw [hE] at this; exact this)
        have L0 : Hid (Below E X (X.alloc (.cells #[] 3))) := Lib.hid ((Below.refl _ _).alloc (Nat.le_of_eq hE.symm) _)
        go_wp2_with fail
        clear hE
        go_loopw [13, 12] (fun s v wr => ∃ (m : Nat) (u : Value), m ≤ n1 ∧ s = .int .i64 m ∧ u = v ∧ Hid (wr.ownsRow E 3 1 u (allTo m).length ((allTo m).map (Value.int .i64))) ∧ Hid (Below E X wr)) (fun s _ _ => n1 - (intOf s).toNat)
        case atStart => exact ⟨0, _, Nat.zero_le _, rfl, rfl, OW, L0⟩
        case round =>
          obtain ⟨m, u, hm, rfl, rfl, HO, HM⟩ := hrel
          obtain ⟨Y, rfl⟩ : ∃ x, x = wr := ⟨wr, rfl⟩
          have hEY : E ≤ Y.heap.size := by have := HM.out.size; rw [HE.out] at this; exact this
          have PY := Lib.hid (PX.out.belowB HE.out HM.out)
          go_wp2_with fail
          refine (segWidth_calls PY.out.1).mono ?_
          rintro e w' ⟨rfl, rfl⟩
          have SA := Lib.hid (allTo_succ m)
          have hal := allTo_len m
          by_cases hmt : m < n1
          · obtain ⟨M, hM⟩ : ∃ M, allTo m = M := ⟨_, rfl⟩
            rw [hM] at HO SA hal
            have HAL := Lib.hid hal
            have hMl : M.length ≤ 4 := by omega
            clear hM hal
            go_wp2_with (first | (at_builtin; refine wpList_append_own _ rfl _ _ 23 rfl E 3 i1 (.int .i64 0) 1 8 Try.underlying23 I'.out Z0'.out Z1'.out Z2'.out rfl (by decide) _ _ _ rfl (HO.out.alloc _) ⟨Y.heap.size, 0, none⟩ 1 1 [.int .i64 m] rfl rfl ?c1 ?c2 ?c3 ?c4 ?c5 ?_))
            case c1 => exact cell_one_new Y _ _
            case c2 => intro u hu; simp at hu; subst hu; rfl
            case c3 => unfold maxLen; omega
            case c4 => omega
            case c5 => simp; omega
            intro v' w2 hown' hgrow _
            have R := app_step hEY HM.out HO.out hown' hgrow
            have O2 := Lib.hid R.1
            have B2 := Lib.hid R.2
            rw [← SA.out] at O2
            clear hown' hgrow R
            go_wp2_with fail
            go_roundw
            case rel => exact ⟨m + 1, _, by omega, by go_num, rfl, O2, B2⟩
            case measure => simp [intOf]; omega
          · have tm : decide (m < n1) = false := decide_eq_false hmt
            obtain ⟨ua, uc, rfl, hur⟩ := row_of_owns HO.out
            have hmn : m = n1 := by omega
            have UR : Hid (Row Y ua (allTo n1)) := Lib.hid (by rw [← hmn]; exact hur)
            have hln : Hid ((allTo m).length = (allTo n1).length) := Lib.hid (by rw [hmn])
            rw [hln.out]
            have hal2 : (allTo n1).length ≤ 1000 := by rw [allTo_len]; omega
            have ch := hash_join PY.out.1 PY.out.1 ua ua uc uc (allTo n1) (allTo n1) UR.out UR.out hal2 hal2 (by omega) (by omega) (by omega) (by omega)
            have KD := Lib.hid (keys_all PY.out.1.2.1)
            have DG : Hid (pairsOf xs xs = (List.range xs.length).map fun (i : Nat) => ((i : Int), (i : Int))) := Lib.hid (pairs_diag (sorted_diff PY.out.1.1) _ (Nat.le_refl _))
            have DL : Hid ((pairsOf xs xs).length = xs.length) := Lib.hid (by rw [DG.out]; simp)
            have DA : Hid (∀ i, i < xs.length → atP (pairsOf xs xs) i = ((i : Int), (i : Int))) := Lib.hid (fun i hi => by rw [DG.out]; exact atP_diag hi)
            rw [KD.out] at ch
            clear hal hmn hur hln
            obtain ⟨al, hAL⟩ : ∃ al, (allTo n1).length = al := ⟨_, rfl⟩
            have AL := Lib.hid hAL
            rw [hAL] at ch ⊢
            clear hAL hal2
            generalize hds : pairsOf xs xs = ds at *
            have HDS := Lib.hid hds
            clear hds
            go_wp2_with fail
            refine ch.mono ?_
            rintro e V ⟨va, vc, rfl, hv1, hbv⟩
            have VR := Lib.hid hv1
            have JV : Hid (Below B w V) := Lib.hid ((((JX.out.belowB HE.out HM.out)).next hbv).bel)
            have PV := Lib.hid (PY.out.below hbv)
            have UV := Lib.hid (UR.out.below hbv)
            have JW := Lib.hid ((JX.out.belowB HE.out HM.out).next hbv)
            clear hv1 hbv ch
            rw [DL.out]
            obtain ⟨G, hG⟩ : ∃ G, V.heap.size = G := ⟨_, rfl⟩
            have HG := Lib.hid hG
            clear hG
            go_wp2_with fail
            go_loopw [93] (fun s wr => ∃ i : Nat, i ≤ xs.length ∧ s = .int .i64 i ∧ Hid (Below G V wr)) (fun s _ => xs.length - (intOf s).toNat)
            case atStart => exact ⟨0, Nat.zero_le _, rfl, Lib.hid (Below.refl _ _)⟩
            case round =>
              obtain ⟨i, hi, rfl, HI⟩ := hrel
              obtain ⟨Z, rfl⟩ : ∃ x, x = wr := ⟨wr, rfl⟩
              have hGZ : G ≤ Z.heap.size := by have := HI.out.size; rw [HG.out] at this; exact this
              by_cases hix : i < xs.length
              · obtain ⟨vb, vo, rfl, _, hz1, hz2⟩ := (VR.out.belowB HG.out HI.out).at (i := i) (by have := DL.out; omega)
                rw [DA.out i hix] at hz1 hz2
                have HI2 := Lib.hid (HI.out.alloc hGZ (.cells #[.int .i64 i, .int .i64 i] 36))
                go_wp2_with fail
                go_roundw
                case rel => exact ⟨i + 1, by omega, by go_num, HI2⟩
                case measure => simp [intOf]; omega
              · have ti : decide (i < xs.length) = false := decide_eq_false hix
                have PZ := Lib.hid (PV.out.belowB HG.out HI.out)
                have UZ := Lib.hid (UV.out.belowB HG.out HI.out)
                have JZ := Lib.hid (JW.out.belowB HG.out HI.out)
                have cm2 := merge_join PZ.out.1 PZ.out.1 ua ua uc uc (allTo n1) (allTo n1) UZ.out UZ.out (by rw [allTo_len]; omega) (by rw [allTo_len]; omega) (by omega) (by omega) (by omega) (by omega)
                rw [KD.out, HDS.out, show (allTo n1).length = al from AL.out] at cm2
                go_wp2_with fail
                refine cm2.mono ?_
                rintro e Z2 ⟨ya, yc, rfl, _, hbz⟩
                have PZ2 := Lib.hid (PZ.out.below hbz)
                have JZ2 := Lib.hid (JZ.out.next hbz)
                clear cm2 hbz
                rw [DL.out]
                go_wp2_with fail
                refine (segLen_calls PZ2.out.1).mono ?_
                rintro e w' ⟨rfl, rfl⟩
                go_wp2_with fail
                go_ret
                exact ⟨rfl, by rw [HB.out]; exact JZ2.out.bel⟩
end Go.Proofs.Ytcecndjkfdaaaaa
