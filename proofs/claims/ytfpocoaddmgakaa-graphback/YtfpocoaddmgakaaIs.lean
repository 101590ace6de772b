/- Contracts of Loops and of the statements' comparison. -/
import Derived.Test.YtfpocoaddmgakaaCp
namespace Go.Proofs.Ytfpocoaddmgakaa
open Go.RowKit
set_option linter.unusedVariables false
set_option linter.unusedSimpArgs false

set_option maxRecDepth 100000 in
theorem index_calls {a : Option Addr} {c : Nat} {xs : List Int} {w : World} (hr : Row w a xs) (hl : xs.length ≤ 1000000) (t : Int) : Calls Try.prog 25 #[.slice a xs.length c, .int .i64 t] w fun e w' => w = w' ∧ ∃ i : Int, e = .returned (.int .i64 i) ∧ (0 ≤ i ↔ t ∈ xs) := by
  have HR := Lib.hid hr
  clear hr
  go_enter Try.func25, Try.ntmps25
  go_wp2_with fail
  go_loopw [8, 5] (fun s _ wr => ∃ k : Nat, k ≤ xs.length ∧ s = .int .i64 k ∧ w = wr ∧ Hid (t ∉ xs.take k)) (fun s _ _ => xs.length - (intOf s).toNat)
  case atStart => exact ⟨0, Nat.zero_le _, rfl, rfl, Lib.hid (by simp)⟩
  case round =>
    obtain ⟨k, hk, rfl, rfl, HN⟩ := hrel
    by_cases hlt : k < xs.length
    · obtain ⟨b, off, rfl, hb, hc⟩ := HR.out.at hlt
      have k0 : (0 : Int) ≤ (k : Int) := by omega
      have k1 : (k : Int) < (xs.length : Int) := by omega
      have hz : xs[k]?.getD 0 = xs[k] := by simp [hlt]
      rw [hz] at hc
      have HT : Hid (xs.take (k + 1) = xs.take k ++ [xs[k]]) := Lib.hid (List.take_succ_eq_append_getElem hlt)
      have HM : Hid (xs[k] ∈ xs) := Lib.hid (List.getElem_mem hlt)
      clear hz
      generalize xs[k] = z at *
      by_cases he : t = z
      · have q1 : (t == z) = true := by rw [he]; exact beq_self_eq_true _
        have HE := Lib.hid he
        clear he HR
        go_wp2_with fail
        go_ret
        exact ⟨rfl, k, rfl, ⟨fun _ => by rw [HE.out]; exact HM.out, fun _ => by omega⟩⟩
      · have q1 : (t == z) = false := beq_eq_false_iff_ne.2 he
        have HN2 : Hid (t ∉ xs.take (k + 1)) := Lib.hid (by rw [HT.out]; simp; exact ⟨HN.out, he⟩)
        clear he
        go_wp2_with fail
        go_roundw
        case rel => exact ⟨k + 1, by omega, by go_num, trivial, HN2⟩
        case measure => simp [intOf]; omega
    · have HN2 : Hid (t ∉ xs) := Lib.hid (by have := HN.out; rw [List.take_of_length_le (by omega)] at this; exact this)
      clear HR
      go_wp2_with fail
      go_ret
      exact ⟨rfl, -1, rfl, ⟨fun h => by omega, fun h => absurd h HN2.out⟩⟩
theorem contains_calls {a : Option Addr} {c : Nat} {xs : List Int} {w : World} (hr : Row w a xs) (hl : xs.length ≤ 1000000) (t : Int) : Calls Try.prog 19 #[.slice a xs.length c, .int .i64 t] w fun e w' => w = w' ∧ e = .returned (.bool (decide (t ∈ xs))) := by
  have cx := index_calls (c := c) hr hl t
  clear hr
  go_enter Try.func19, Try.ntmps19
  go_wp2_with (first | (go_at_call 25; refine cx.mono ?_; rintro e w' ⟨rfl, i, rfl, hi⟩; have HI := Lib.hid hi; clear hi))
  go_ret
  exact ⟨rfl, by rw [decide_eq_decide.2 HI.out.symm]; rfl⟩
theorem loops_calls {a : Option Addr} {c : Nat} {K : List RV} {w : World} (hr : RRow w a K) (hl : K.length ≤ 1000000) (hd : ∀ i, i < K.length → (edgesOf K i).length ≤ 1000000) (t : Int) : Calls Try.prog 12 #[.slice a K.length c, .int .i64 t] w fun e w' => w = w' ∧ e = .returned (.bool (decide ((0 ≤ t ∧ t < (K.length : Int)) ∧ t ∈ edgesOf K t.toNat))) := by
  have iN := isNode_calls a K.length c t w
  by_cases hn : 0 ≤ t ∧ t < (K.length : Int)
  · have ht : decide (0 ≤ t ∧ t < (K.length : Int)) = true := decide_eq_true hn
    rw [ht] at iN
    obtain ⟨b, rfl⟩ : ∃ b : Nat, t = b := ⟨t.toNat, by omega⟩
    have hb : b < K.length := by omega
    obtain ⟨g, off, rfl, hg, hc, hrow, _⟩ := hr.at hb
    have cc := contains_calls (c := (atV K b).2.2) hrow (hd b hb) (b : Int)
    have E : Hid (decide ((0 ≤ (b : Int) ∧ (b : Int) < (K.length : Int)) ∧ (b : Int) ∈ edgesOf K (b : Int).toNat) = decide ((b : Int) ∈ (atV K b).2.1)) := Lib.hid (by rw [Int.toNat_natCast]; unfold edgesOf; simp [hb])
    rw [E.out]
    have b0 : (0 : Int) ≤ (b : Int) := by omega
    have b1 : (b : Int) < (K.length : Int) := by omega
    generalize (atV K b).1 = x1 at *
    generalize (atV K b).2.1 = x2 at *
    generalize (atV K b).2.2 = x3 at *
    clear hr hn ht hrow hd E
    go_enter Try.func12, Try.ntmps12
    go_wp2_with (first | (go_at_call 18; refine iN.mono ?_; rintro e w' ⟨rfl, rfl⟩) | (go_at_call 19; refine cc.mono ?_; rintro e w' ⟨rfl, rfl⟩))
    go_ret
    exact ⟨rfl, rfl⟩
  · have ht : decide (0 ≤ t ∧ t < (K.length : Int)) = false := decide_eq_false hn
    rw [ht] at iN
    have E : Hid (decide ((0 ≤ t ∧ t < (K.length : Int)) ∧ t ∈ edgesOf K t.toNat) = false) := Lib.hid (decide_eq_false (fun h => hn h.1))
    rw [E.out]
    clear hr hn ht hd E
    go_enter Try.func12, Try.ntmps12
    go_wp2_with (first | (go_at_call 18; refine iN.mono ?_; rintro e w' ⟨rfl, rfl⟩))
    go_ret
    exact ⟨rfl, rfl⟩

/-- Nothing has turned. -/
def Same (w w' : World) : Prop := w'.heap = w.heap ∧ Below w.heap.size w w'
theorem Same.refl (w : World) : Same w w := ⟨rfl, Below.refl _ _⟩
theorem Same.drewN {w w' : World} (h : Same w w') (q : Nat) : Same w (w'.drewN q) := ⟨h.1, below_drewN h.2 q⟩
theorem Same.cell {w w' : World} (h : Same w w') (a : Addr) : w'.cell? a = w.cell? a := World.cell?_of_block (by rw [h.1])
theorem Same.row {w w' : World} (h : Same w w') {a : Option Addr} {zs : List Int} (hr : Row w a zs) : Row w' a zs := hr.below h.2

def rowsOf (M : List RV) : List (List Int) := M.map (·.2.1)
theorem rowsOf_at {M : List RV} {k : Nat} (h : k < M.length) : (rowsOf M)[k]? = some (atV M k).2.1 := by simp [rowsOf, atV, h]
/-- Are they the same up to row i, and of row i up to place j? -/
def SameTo (M T : List RV) (i : Nat) : Prop := (rowsOf M).take i = (rowsOf T).take i

set_option maxRecDepth 100000 in
set_option maxHeartbeats 4000000 in
theorem is_calls {a b : Option Addr} {ca cb : Nat} {M T : List RV} {w : World} (ha : RRow w a M) (hb : RRow w b T) (hlM : M.length ≤ 1000000) (hlT : T.length ≤ 1000000) (hm : ∀ x ∈ M, x.2.1.length ≤ 1000000) (ht : ∀ x ∈ T, x.2.1.length ≤ 1000000) :
    Calls Try.prog 9 #[.slice a M.length ca, .slice b T.length cb] w fun e w' => e = .returned (.bool (decide (rowsOf M = rowsOf T))) ∧ Below w.heap.size w w' := by
  have HA := Lib.hid ha
  have HB := Lib.hid hb
  have HM := Lib.hid hm
  have HT := Lib.hid ht
  clear ha hb hm ht
  by_cases hlen : M.length = T.length
  · have q0 : (((M.length : Nat) : Int) != ((T.length : Nat) : Int)) = false := by rw [hlen]; simp
    obtain ⟨n, hn⟩ : ∃ n, M.length = n := ⟨_, rfl⟩
    have HN : Hid (M.length = n ∧ T.length = n) := Lib.hid ⟨hn, by omega⟩
    rw [← hlen] at q0 ⊢
    rw [hn] at q0 ⊢
    have hnn : n ≤ 1000000 := by omega
    clear hlen hn hlT hlM
    go_enter Try.func9, Try.ntmps9
    go_wp2_with fail
    go_loopw [14, 5, 6] (fun s _ _ wr => ∃ i : Nat, i ≤ n ∧ s = .int .i64 i ∧ Hid (SameTo M T i) ∧ Hid (Same w wr)) (fun s _ _ _ => n - (intOf s).toNat)
    case atStart => exact ⟨0, Nat.zero_le _, rfl, Lib.hid (by unfold SameTo; simp), Lib.hid (Same.refl w)⟩
    case round =>
      obtain ⟨i, hi, rfl, HS, HQ⟩ := hrel
      by_cases hlt : i < n
      · have i0 : (0 : Int) ≤ (i : Int) := by omega
        have i1 : (i : Int) < (n : Int) := by omega
        obtain ⟨ga, oa, rfl, hga, hca, hra, _⟩ := HA.out.at (k := i) (by rw [HN.out.1]; exact hlt)
        obtain ⟨gb, ob, rfl, hgb, hcb, hrb, _⟩ := HB.out.at (k := i) (by rw [HN.out.2]; exact hlt)
        have hla := HM.out _ (atV_mem (by rw [HN.out.1]; exact hlt : i < M.length))
        have hlb := HT.out _ (atV_mem (by rw [HN.out.2]; exact hlt : i < T.length))
        have RA := rowsOf_at (M := M) (k := i) (by rw [HN.out.1]; exact hlt)
        have RB := rowsOf_at (M := T) (k := i) (by rw [HN.out.2]; exact hlt)
        generalize (atV M i).1 = xa at *
        generalize (atV M i).2.1 = ya at *
        generalize (atV M i).2.2 = za at *
        generalize (atV T i).1 = xb at *
        generalize (atV T i).2.1 = yb at *
        generalize (atV T i).2.2 = zb at *
        have HRA := Lib.hid RA
        have HRB := Lib.hid RB
        have HHA := Lib.hid hra
        have HHB := Lib.hid hrb
        have W1 : wr.cell? ⟨ga, oa + i, none⟩ = some (.slice xa ya.length za) := (HQ.out.cell _).trans hca
        have W2 : wr.cell? ⟨gb, ob + i, none⟩ = some (.slice xb yb.length zb) := (HQ.out.cell _).trans hcb
        have HC1 := Lib.hid hca
        have HC2 := Lib.hid hcb
        clear RA RB hra hrb hca hcb
        by_cases hly : ya.length = yb.length
        · have q1 : (((ya.length : Nat) : Int) != ((yb.length : Nat) : Int)) = false := by rw [hly]; simp
          have HLY := Lib.hid hly
          clear hly
          go_wp2_with fail
          go_quiet (fail)
          have W1' : (wr.drewN nq).cell? ⟨ga, oa + i, none⟩ = some (.slice xa ya.length za) := W1
          have P0 : Hid (Same w (wr.drewN nq)) := Lib.hid (HQ.out.drewN _)
          clear W1 W2 q1 HQ
          generalize wr.drewN nq = wz at *
          go_wp2_with fail
          clear W1'
          go_loopw [33, 6] (fun s _ wv => ∃ j : Nat, j ≤ ya.length ∧ s = .int .i64 j ∧ Hid (ya.take j = yb.take j) ∧ Hid (Same w wv)) (fun s _ _ => ya.length - (intOf s).toNat)
          case atStart => exact ⟨0, Nat.zero_le _, rfl, Lib.hid (by simp), P0⟩
          case round =>
            obtain ⟨j, hj, rfl, HJ, HP⟩ := hrel
            clear P0
            by_cases hlj : j < ya.length
            · have j0 : (0 : Int) ≤ (j : Int) := by omega
              have j1 : (j : Int) < (ya.length : Int) := by omega
              have j2 : (j : Int) < (yb.length : Int) := by have := HLY.out; omega
              have hljb : j < yb.length := by have := HLY.out; omega
              have W1 : wr.cell? ⟨ga, oa + i, none⟩ = some (.slice xa ya.length za) := (HP.out.cell _).trans HC1.out
              have W2 : wr.cell? ⟨gb, ob + i, none⟩ = some (.slice xb yb.length zb) := (HP.out.cell _).trans HC2.out
              obtain ⟨gc, oc, rfl, hgc, hcc⟩ := (HP.out.row HHA.out).at hlj
              obtain ⟨gd, od, rfl, hgd, hcd⟩ := (HP.out.row HHB.out).at hljb
              have ha : ya[j]?.getD 0 = ya[j] := by simp [hlj]
              have hb : yb[j]?.getD 0 = yb[j] := by simp [hljb]
              rw [ha] at hcc
              rw [hb] at hcd
              have TA := Lib.hid (List.take_succ_eq_append_getElem hlj)
              have TB := Lib.hid (List.take_succ_eq_append_getElem hljb)
              have GA := Lib.hid (List.getElem?_eq_getElem hlj)
              have GB := Lib.hid (List.getElem?_eq_getElem hljb)
              clear ha hb
              generalize ya[j] = za1 at *
              generalize yb[j] = zb1 at *
              by_cases he : za1 = zb1
              · have q2 : (za1 != zb1) = false := by rw [he]; simp
                have NX : Hid (ya.take (j + 1) = yb.take (j + 1)) := Lib.hid (by rw [TA.out, TB.out, HJ.out, he])
                clear he
                go_wp2_with fail
                go_quiet (fail)
                have P1 := Lib.hid (HP.out.drewN nq)
                generalize wr.drewN nq = wy at *
                clear W1 W2 hcc hcd
                go_wp2_with fail
                go_roundw
                case rel => exact ⟨j + 1, by omega, by go_num, NX, P1⟩
                case measure => simp [intOf]; omega
              · have q2 : (za1 != zb1) = true := bne_iff_ne.2 he
                have NE : Hid (decide (rowsOf M = rowsOf T) = false) := Lib.hid (decide_eq_false (fun e => he (by
                  have h1 := HRA.out
                  rw [e, HRB.out] at h1
                  have h2 : yb = ya := Option.some.inj h1
                  have h3 := GA.out
                  rw [← h2, GB.out] at h3
                  exact (Option.some.inj h3).symm)))
                clear he
                go_wp2_with fail
                go_quiet (fail)
                have P1 := Lib.hid (HP.out.drewN nq)
                generalize wr.drewN nq = wy at *
                clear W1 W2 hcc hcd
                go_wp2_with fail
                go_ret
                exact ⟨by rw [NE.out]; rfl, P1.out.2⟩
            · have NX : Hid (SameTo M T (i + 1)) := Lib.hid (by
                unfold SameTo at *
                have h1 := HRA.out
                have h2 := HRB.out
                have e : ya = yb := by
                  have := HJ.out
                  have hl := HLY.out
                  rw [List.take_of_length_le (by omega), List.take_of_length_le (by omega)] at this
                  exact this
                rw [List.take_add_one, List.take_add_one, h1, h2, HS.out, e])
              go_wp2_with fail
              go_roundw
              case rel =>
                exact ⟨i + 1, by omega, by go_num, NX, HP⟩
              case measure => simp [intOf]; omega
        · have q1 : (((ya.length : Nat) : Int) != ((yb.length : Nat) : Int)) = true := bne_iff_ne.2 (by omega)
          have NE : Hid (decide (rowsOf M = rowsOf T) = false) := Lib.hid (decide_eq_false (fun e => hly (by
            have h1 := HRA.out
            rw [e, HRB.out] at h1
            rw [Option.some.inj h1])))
          clear hly
          go_wp2_with fail
          go_quiet (fail)
          have P1 := Lib.hid (HQ.out.drewN nq)
          generalize wr.drewN nq = wy at *
          clear W1 W2
          go_wp2_with fail
          go_ret
          exact ⟨by rw [NE.out]; rfl, P1.out.2⟩
      · have YE : Hid (decide (rowsOf M = rowsOf T) = true) := Lib.hid (decide_eq_true (by
          have := HS.out
          unfold SameTo at this
          have h := HN.out
          rw [List.take_of_length_le (by simp only [rowsOf, List.length_map]; omega), List.take_of_length_le (by simp only [rowsOf, List.length_map]; omega)] at this
          exact this))
        go_wp2_with fail
        go_ret
        exact ⟨by rw [YE.out]; rfl, HQ.out.2⟩
  · have q0 : (((M.length : Nat) : Int) != ((T.length : Nat) : Int)) = true := bne_iff_ne.2 (by omega)
    have NE : Hid (decide (rowsOf M = rowsOf T) = false) := Lib.hid (decide_eq_false (fun e => hlen (by
      have := congrArg List.length e
      simpa [rowsOf] using this)))
    rw [NE.out]
    clear hlen
    go_enter Try.func9, Try.ntmps9
    go_wp2_with fail
    go_ret
    exact ⟨rfl, Below.refl _ _⟩
end Go.Proofs.Ytfpocoaddmgakaa
