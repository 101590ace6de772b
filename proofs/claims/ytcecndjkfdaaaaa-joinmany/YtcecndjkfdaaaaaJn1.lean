/- Rows of pairs in memory; join's Hash. Written by mkjn1.py. -/
import Derived.Test.YtcecndjkfdaaaaaUl
import Derived.Test.YtcecndjkfdaaaaaJn0
namespace Go.Proofs.Ytcecndjkfdaaaaa
open Go.RowKit
set_option linter.unusedVariables false
set_option linter.unusedSimpArgs false

def atP (es : List (Int × Int)) (i : Nat) : Int × Int := es[i]?.getD (0, 0)
/-- The cells of a list of entries: value and number. -/
def flat (es : List (Int × Int)) : List Value := es.flatMap fun e => [.int .i64 e.1, .int .i64 e.2]
theorem flat_nil : flat [] = [] := rfl
theorem flat_cons (x : Int × Int) (es : List (Int × Int)) : flat (x :: es) = .int .i64 x.1 :: .int .i64 x.2 :: flat es := by simp [flat]
theorem flat_len (es : List (Int × Int)) : (flat es).length = es.length * 2 := by
  induction es with
  | nil => rfl
  | cons x es ih => rw [flat_cons]; simp [ih]; omega
theorem flat_append (l r : List (Int × Int)) : flat (l ++ r) = flat l ++ flat r := by simp [flat]
theorem flat_at {es : List (Int × Int)} {i : Nat} (h : i < es.length) : (flat es)[i * 2]? = some (.int .i64 (atP es i).1) ∧ (flat es)[i * 2 + 1]? = some (.int .i64 (atP es i).2) := by
  induction es generalizing i with
  | nil => simp at h
  | cons x es ih =>
    rw [flat_cons]
    cases i with
    | zero => simp [atP]
    | succ i =>
      have := ih (i := i) (by simpa using h)
      rw [show (i + 1) * 2 = i * 2 + 2 by omega]
      simpa [atP] using this
theorem flat_set {es : List (Int × Int)} {i : Nat} (x : Int × Int) (h : i < es.length) : ((flat es).set (i * 2) (.int .i64 x.1)).set (i * 2 + 1) (.int .i64 x.2) = flat (es.set i x) := by
  induction es generalizing i with
  | nil => simp at h
  | cons y es ih =>
    rw [flat_cons]
    cases i with
    | zero => simp [flat_cons]
    | succ i =>
      have := ih (i := i) (by simpa using h)
      rw [show (i + 1) * 2 = i * 2 + 1 + 1 by omega]
      simp only [List.set_cons_succ, flat_cons, this]


/-- The slice at address a reads as the pairs ps. -/
def PRow (w : World) (a : Option Addr) (ps : List (Int × Int)) : Prop :=
  ps = [] ∨ ∃ b off, a = some ⟨b, off, none⟩ ∧ b < w.heap.size ∧ ∀ i, i < ps.length → w.cell? ⟨b, off + i * 2, none⟩ = some (.int .i64 (atP ps i).1) ∧ w.cell? ⟨b, off + i * 2 + 1, none⟩ = some (.int .i64 (atP ps i).2)
theorem PRow.below {w w' : World} {a : Option Addr} {ps : List (Int × Int)} (h : PRow w a ps) (hb : Below w.heap.size w w') : PRow w' a ps := by
  rcases h with rfl | ⟨b, off, rfl, hlt, hc⟩
  · exact .inl rfl
  · exact .inr ⟨b, off, rfl, Nat.lt_of_lt_of_le hlt hb.size, fun i hi => ⟨(hb.cell (p := ⟨b, off + i * 2, none⟩) hlt).trans (hc i hi).1, (hb.cell (p := ⟨b, off + i * 2 + 1, none⟩) hlt).trans (hc i hi).2⟩⟩
theorem PRow.at {w : World} {a : Option Addr} {ps : List (Int × Int)} (h : PRow w a ps) {i : Nat} (hi : i < ps.length) : ∃ b off, a = some ⟨b, off, none⟩ ∧ b < w.heap.size ∧ w.cell? ⟨b, off + i * 2, none⟩ = some (.int .i64 (atP ps i).1) ∧ w.cell? ⟨b, off + i * 2 + 1, none⟩ = some (.int .i64 (atP ps i).2) := by
  rcases h with rfl | ⟨b, off, rfl, hlt, hc⟩
  · simp at hi
  · exact ⟨b, off, rfl, hlt, (hc i hi).1, (hc i hi).2⟩
def PairRet (w : World) (ps : List (Int × Int)) (e : Ending) (w' : World) : Prop := ∃ a cap, e = .returned (.slice a ps.length cap) ∧ PRow w' a ps ∧ Below w.heap.size w w'
theorem prow_of_owns {w : World} {base : Nat} {v : Value} {n : Nat} {ps : List (Int × Int)} (h : w.ownsRow base 36 2 v n (flat ps)) : ∃ a cap, v = .slice a ps.length cap ∧ PRow w a ps := by
  have hn : n = ps.length := by have := h.1; rw [flat_len] at this; omega
  rcases h.2 with ⟨rfl, h0⟩ | ⟨g, cap, cur, rfl, hb, hh, _⟩
  · have : ps = [] := List.eq_nil_of_length_eq_zero (by omega)
    subst this
    exact ⟨none, 0, rfl, .inl rfl⟩
  · subst hn
    refine ⟨_, cap, rfl, .inr ⟨g, 0, rfl, (Array.getElem?_eq_some_iff.1 hh).1, fun i hi => ?_⟩⟩
    obtain ⟨f1, f2⟩ := flat_at hi
    rw [Nat.zero_add]
    exact ⟨(h.cellAt (i * 2) (by omega)).trans f1, (h.cellAt (i * 2 + 1) (by omega)).trans f2⟩
theorem info36 : (Try.prog.info? 36).map (fun i => (i.zero, i.size, i.bytes)) = some (some (.agg #[.int .i64 0, .int .i64 0]), 2, 16) := by kernel_rfl
/-- What an appended pair leaves. -/
theorem app_pair {w wr w1 : World} {B : Nat} {v v' : Value} {ps : List (Int × Int)} {x y : Int} (hB : B ≤ wr.heap.size) (hbel : Below B w wr) (hown : wr.ownsRow B 36 2 v ps.length (flat ps))
    (hown' : w1.ownsRow B 36 2 v' (ps.length + 1) (flat ps ++ [.int .i64 x, .int .i64 y])) (hgrow : (wr.alloc (.cells #[.int .i64 x, .int .i64 y] 36)).grownBy w1 v.ownBlock) :
    w1.ownsRow B 36 2 v' (ps ++ [(x, y)]).length (flat (ps ++ [(x, y)])) ∧ Below B w w1 := by
  refine ⟨by rw [flat_append, List.length_append]; exact hown', ?_⟩
  exact (hbel.alloc hB _).grown hgrow (by simp; omega) (fun k hk => (hown.lt k hk).1)

def rowPairs (i : Nat) (js : List Int) : List (Int × Int) := js.map fun j => ((i : Int), j)
/-- The pairs of rows with equal keys, of the first m rows of the one side. -/
def pairsTo (kas kbs : List (List Int)) (m : Nat) : List (Int × Int) := (List.range m).flatMap fun (i : Nat) => rowPairs i (ints (rowsOf kbs (kyAt kas i)))
def pairsOf (kas kbs : List (List Int)) : List (Int × Int) := pairsTo kas kbs kas.length
theorem pairsTo_succ (kas kbs : List (List Int)) (m : Nat) : pairsTo kas kbs (m + 1) = pairsTo kas kbs m ++ rowPairs m (ints (rowsOf kbs (kyAt kas m))) := by
  unfold pairsTo
  rw [List.range_succ, List.flatMap_append]
  simp
theorem rowPairs_take {i k : Nat} {js : List Int} (h : k < js.length) : rowPairs i (js.take (k + 1)) = rowPairs i (js.take k) ++ [((i : Int), js[k]?.getD 0)] := by
  unfold rowPairs
  rw [List.take_succ_eq_append_getElem h, List.map_append, List.getElem?_eq_getElem h]; rfl
theorem pairsTo_len (kas kbs : List (List Int)) (m : Nat) : (pairsTo kas kbs m).length ≤ m * kbs.length := by
  induction m with
  | zero => simp [pairsTo]
  | succ m ih =>
    rw [pairsTo_succ, List.length_append, Nat.succ_mul]
    have : (rowPairs m (ints (rowsOf kbs (kyAt kas m)))).length ≤ kbs.length := by
      unfold rowPairs; rw [List.length_map, ints_len]; exact rowsTo_len _ _ _
    omega
set_option maxRecDepth 100000 in
set_option maxHeartbeats 4000000 in
theorem hash_join {w : World} {p o : Option Addr} {w1 w2 : Nat} {rs ss : List (List Int)} (hS : Seg w p w1 rs) (hT : Seg w o w2 ss) (a b : Option Addr) (ca cb : Nat) (ka kb : List Int) (hka : Row w a ka) (hkb : Row w b kb) (hal : ka.length ≤ 1000) (hbl : kb.length ≤ 1000) (hw1 : w1 ≤ 1000) (hw2 : w2 ≤ 1000) (hrs : rs.length ≤ 1000) (hss : ss.length ≤ 1000) :
    Calls Try.prog 17 #[.pointer p, .pointer o, .slice a ka.length ca, .slice b kb.length cb] w (PairRet w (pairsOf (rs.map fun r => keyL r ka) (ss.map fun r => keyL r kb))) := by
  obtain ⟨i0, hi0, hz0, hz1, hz2⟩ := info_parts info36
  have I := Lib.hid hi0
  have Z0 := Lib.hid hz0
  have Z1 := Lib.hid hz1
  have Z2 := Lib.hid hz2
  obtain ⟨B, hB⟩ : ∃ B, w.heap.size = B := ⟨_, rfl⟩
  have HB := Lib.hid hB
  have HS := Lib.hid hS
  have HA := Lib.hid hka
  have cb := build_calls hT b cb kb hkb hbl hw2 hss
  have KA : Hid (∀ i, i < rs.length → kyAt (rs.map fun r => keyL r ka) i = keyL (rowAt rs i) ka) := Lib.hid (fun i hi => kyAt_map hi)
  have LA : Hid ((rs.map fun r => keyL r ka).length = rs.length) := Lib.hid (by simp)
  have LB : Hid ((ss.map fun r => keyL r kb).length = ss.length) := Lib.hid (by simp)
  generalize (rs.map fun r => keyL r ka) = kas at *
  generalize (ss.map fun r => keyL r kb) = kbs at *
  clear hi0 hz0 hz1 hz2 hB hS hT hka hkb
  go_enter Try.func17, Try.ntmps17
  go_wp2_with fail
  refine cb.mono ?_
  rintro e W1 ⟨g, rfl, hx, hb1⟩
  have X := Lib.hid hx
  have BW1 : Hid (Below B w W1) := Lib.hid (by rw [HB.out] at hb1; exact hb1)
  clear cb hx hb1
  have cl := segLen_calls (HS.out.belowB HB.out BW1.out)
  go_wp2_with fail
  refine cl.mono ?_
  rintro e w' ⟨rfl, rfl⟩
  clear cl
  obtain ⟨C, hC⟩ : ∃ C, W1.heap.size = C := ⟨_, rfl⟩
  have HC := Lib.hid hC
  have hBC : Hid (B ≤ C) := Lib.hid (by have := BW1.out.size; rw [HB.out, hC] at this; exact this)
  clear hC
  go_wp2_with fail
  go_loopw [19, 10] (fun s v wr => ∃ (i : Nat) (u : Value), i ≤ rs.length ∧ s = .int .i64 i ∧ u = v ∧ Hid (wr.ownsRow C 36 2 u (pairsTo kas kbs i).length (flat (pairsTo kas kbs i))) ∧ Hid (Below C W1 wr)) (fun s _ _ => rs.length - (intOf s).toNat)
  case atStart => exact ⟨0, _, Nat.zero_le _, rfl, rfl, Lib.hid (World.ownsRow_nil _ _ _ _), Lib.hid (Below.refl _ _)⟩
  case round =>
    obtain ⟨i, u, hi, rfl, rfl, HO, HL⟩ := hrel
    by_cases hlt : i < rs.length
    · obtain ⟨W2, rfl⟩ : ∃ x, x = wr := ⟨wr, rfl⟩
      have BW2 := Lib.hid (BW1.out.trans (HL.out.mono hBC.out))
      have HLw := Lib.hid (HS.out.2.1 _ (rowAt_mem hlt))
      have hC2 : C ≤ W2.heap.size := by have := HL.out.size; rw [HC.out] at this; exact this
      have cr := segRow_calls (HS.out.belowB HB.out BW2.out) i hlt hw1 (by omega)
      go_wp2_with fail
      refine cr.mono ?_
      rintro e W3 ⟨ra, rc, rfl, hr3, _, hb3⟩
      have L3 := Lib.hid (HL.out.trans (hb3.mono hC2))
      have O3 := Lib.hid (owns_keeps (N := fun _ => False) HO.out (Keeps.of_below hb3) (fun _ _ h => h))
      have BW3 := Lib.hid (BW1.out.trans (L3.out.mono hBC.out))
      have ck := key_calls ra a rc ca (rowAt rs i) ka W3 hr3 (HA.out.belowB HB.out BW3.out) (by rw [HLw.out]; omega) (by omega)
      rw [← KA.out i hlt] at ck
      have hkl : Hid ((kyAt kas i).length ≤ 1000) := Lib.hid (by rw [KA.out i hlt]; have := keyL_len (rowAt rs i) ka; omega)
      have hC3 : Hid (C ≤ W3.heap.size) := Lib.hid (by have := L3.out.size; rw [HC.out] at this; exact this)
      clear cr hr3 hb3 HO
      go_wp2_with fail
      refine ck.mono ?_
      rintro e W4 ⟨ya, yc, rfl, hr4, _, hb4⟩
      have L4 := Lib.hid (L3.out.trans (hb4.mono hC3.out))
      have O4 := Lib.hid (owns_keeps (N := fun _ => False) O3.out (Keeps.of_below hb4) (fun _ _ h => h))
      have cp := ix_probeF (X.out.belowB HC.out L4.out) ya yc (kyAt kas i) hr4 (by have := hkl.out; omega)
      have hC4 : Hid (C ≤ W4.heap.size) := Lib.hid (by have := L4.out.size; rw [HC.out] at this; exact this)
      clear ck hr4 hb4 O3 L3 HL
      have SC := Lib.hid (pairsTo_succ kas kbs i)
      have hjl : (ints (rowsOf kbs (kyAt kas i))).length ≤ 1000 := by rw [ints_len]; have := rowsTo_len kbs (kyAt kas i) kbs.length; have := LB.out; simp only [rowsOf]; omega
      have hpl : (pairsTo kas kbs i).length ≤ 1000000 := by
        have := pairsTo_len kas kbs i
        rw [LB.out] at this
        have h2 : i * ss.length ≤ 1000 * 1000 := Nat.mul_le_mul (by omega) hss
        omega
      generalize ints (rowsOf kbs (kyAt kas i)) = js at *
      go_wp2_with fail
      refine cp.mono ?_
      rintro e W5 ⟨ja, jc, rfl, hj5, _, hjf, hb5⟩
      have J5 : Hid (Row W5 ja js ∧ (∀ q, ja = some q → u.ownBlock ≠ some q.block ∧ q.block < W5.heap.size)) := Lib.hid ⟨hj5, fun q hq => ⟨fun e => by have h1 := (O4.out.lt _ e).2; have h2 := (hjf q hq).1; omega, (hjf q hq).2⟩⟩
      have L5 := Lib.hid (L4.out.trans (hb5.mono hC4.out))
      have O5 := Lib.hid (owns_keeps (N := fun _ => False) O4.out (Keeps.of_below hb5) (fun _ _ h => h))
      clear cp hj5 hjf hb5 O4 L4
      generalize pairsTo kas kbs i = P0 at *
      go_wp2_with fail
      obtain ⟨D, hD⟩ : ∃ D, W5.heap.size = D := ⟨_, rfl⟩
      have HD := Lib.hid hD
      have hCD : Hid (C ≤ D) := Lib.hid (by have := L5.out.size; rw [HC.out, hD] at this; exact this)
      clear hD
      go_loopw [30, 10] (fun s v wr => ∃ (k : Nat) (u2 : Value), k ≤ js.length ∧ s = .int .i64 k ∧ u2 = v ∧ Hid (wr.ownsRow C 36 2 u2 (P0 ++ rowPairs i (js.take k)).length (flat (P0 ++ rowPairs i (js.take k)))) ∧ Hid (Below C W1 wr) ∧ Hid (Row wr ja js ∧ (∀ q, ja = some q → u2.ownBlock ≠ some q.block ∧ q.block < wr.heap.size))) (fun s _ _ => js.length - (intOf s).toNat)
      case atStart => exact ⟨0, _, Nat.zero_le _, rfl, rfl, Lib.hid (by rw [List.take_zero]; simpa [rowPairs] using O5.out), L5, J5⟩
      case round =>
        obtain ⟨k, u2, hk, rfl, rfl, HO2, HL2, HJ2⟩ := hrel
        have hC6 : C ≤ wr.heap.size := by have := HL2.out.size; rw [HC.out] at this; exact this
        by_cases hkl2 : k < js.length
        · obtain ⟨jb, jo, hja, hjb, hjc⟩ := HJ2.out.1.at hkl2
          have ST := Lib.hid (rowPairs_take (i := i) hkl2)
          have hjn := HJ2.out.2 _ hja
          have HJN := Lib.hid hjn
          cases hja
          generalize js[k]?.getD 0 = y at *
          have hq : (P0 ++ rowPairs i (js.take k)).length ≤ 1001000 := by rw [List.length_append]; simp only [rowPairs, List.length_map, List.length_take]; omega
          have ST2 : Hid (P0 ++ rowPairs i (js.take (k + 1)) = (P0 ++ rowPairs i (js.take k)) ++ [((i : Int), y)]) := Lib.hid (by rw [ST.out, List.append_assoc])
          generalize P0 ++ rowPairs i (js.take k) = P1 at *
          go_wp2_with (first | (at_builtin; refine wpList_append_own_at _ rfl _ _ 30 rfl C 36 i0 _ 2 16 Try.underlying30 I.out Z0.out Z1.out Z2.out rfl (by decide) _ _ _ rfl (HO2.out.alloc _) ⟨wr.heap.size, 0, none⟩ 1 1 [.int .i64 i, .int .i64 y] rfl rfl ?c1 ?c2 ?c3 ?c4 ?c5 ?_))
          case c2 => exact ⟨rfl, rfl⟩
          case c3 => unfold maxLen; omega
          case c4 => omega
          case c5 => omega
          intro v1 w7 hown hgrow _ hat
          have R := app_pair hC6 HL2.out HO2.out hown hgrow
          have O7 := Lib.hid R.1
          have L7 := Lib.hid R.2
          have KJ : Keeps (fun b => u2.ownBlock = some b) wr w7 := ((Keeps.refl (fun b => u2.ownBlock = some b) wr).alloc _).trans (Keeps.of_grown hgrow (fun b hb => hb))
          have J7 : Hid (Row w7 (some ⟨jb, jo, none⟩) js ∧ (∀ q, (some ⟨jb, jo, none⟩ : Option Addr) = some q → v1.ownBlock ≠ some q.block ∧ q.block < w7.heap.size)) := Lib.hid ⟨HJ2.out.1.keeps KJ (fun q hq e => (HJ2.out.2 q hq).1 e), fun q hq => ⟨fun e => by
            have h2 := HJ2.out.2 q hq
            rcases hat with e1 | e1
            · rw [e1] at e; exact h2.1 e
            · rw [e1] at e; simp at e; omega, Nat.lt_of_lt_of_le (HJ2.out.2 q hq).2 KJ.size⟩⟩
          rw [← ST2.out] at O7
          clear hown hgrow hat R KJ hjc hjn
          go_wp2_with fail
          go_roundw
          case rel => exact ⟨k + 1, _, by omega, by go_num, rfl, O7, L7, J7⟩
          case measure => simp [intOf]; omega
        · have tk : decide (k < js.length) = false := decide_eq_false hkl2
          have O6 : Hid (wr.ownsRow C 36 2 u2 (pairsTo kas kbs (i + 1)).length (flat (pairsTo kas kbs (i + 1)))) := Lib.hid (by rw [SC.out]; have := HO2.out; rw [List.take_of_length_le (by omega)] at this; exact this)
          go_wp2_with fail
          go_roundw
          case rel => exact ⟨i + 1, u2, by omega, by go_num, rfl, O6, HL2⟩
          case measure => simp [intOf]; omega
    · have tl : decide (i < rs.length) = false := decide_eq_false hlt
      have hfin : wr.ownsRow C 36 2 u (pairsOf kas kbs).length (flat (pairsOf kas kbs)) := by
        have := HO.out
        rw [show i = kas.length by rw [LA.out]; omega] at this
        exact this
      obtain ⟨a9, c9, rfl, hrow⟩ := prow_of_owns hfin
      have HRw := Lib.hid hrow
      clear hfin hrow
      go_wp2_with fail
      go_ret
      exact ⟨a9, c9, rfl, HRw.out, by rw [HB.out]; exact BW1.out.trans (HL.out.mono hBC.out)⟩
end Go.Proofs.Ytcecndjkfdaaaaa
