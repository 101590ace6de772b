/- index.Key told with its block; lists of keyed rows (join's byKey). Written by mkjn2.py. -/
import Derived.Test.YtcecndjkfdaaaaaAl
import Derived.Test.YtcecndjkfdaaaaaJn1
import Derived.Maps.AppendAt
namespace Go.Proofs.Ytcecndjkfdaaaaa
open Go.RowKit Go.Shelf
set_option linter.unusedVariables false
set_option linter.unusedSimpArgs false

set_option maxRecDepth 100000 in
set_option maxHeartbeats 2000000 in
theorem keyAF_calls (a b : Option Addr) (ca cb : Nat) (row keys : List Int) (w : World) (ha : Row w a row) (hb : Row w b keys) (hr : row.length ≤ 1000000) (hk : keys.length ≤ 1000000) (hmin : (keys.length : Int) ≤ (row.length : Int)) :
    Calls Try.prog 44 #[.slice a row.length ca, .slice b keys.length cb] w (FreshRet w (keyL row keys)) := by
  obtain ⟨i1, hi', hz0', hz1', hz2'⟩ := info_parts info2
  have I' := Lib.hid hi'
  have Z0' := Lib.hid hz0'
  have Z1' := Lib.hid hz1'
  have Z2' := Lib.hid hz2'
  clear hi' hz0' hz1' hz2'
  obtain ⟨B, hB⟩ : ∃ B, w.heap.size = B := ⟨_, rfl⟩
  have HB := Lib.hid hB
  have HA := Lib.hid ha
  have HK := Lib.hid hb
  clear hB ha hb
  go_enter Try.func44, Try.ntmps44
  go_wp2_with (first | (refine wpList_make_own _ rfl _ _ 40 rfl B 2 i1 (.int .i64 0) 1 Try.underlying40 I'.out Z0'.out Z1'.out .i64 .i64 _ keys.length rfl rfl ?m0 ?m1 ?m2 ?m3 ?_))
  case m0 => first | rfl | (simp; omega) | omega
  case m1 => rw [Z2'.out]; omega
  case m2 => unfold maxLen; omega
  case m3 => rw [HB.out]; exact Nat.le_refl _
  intro w1 hown hgrow
  have O1 := Lib.hid hown
  have B1 : Hid (Below B w w1) := Lib.hid (grown_belowK hgrow (Nat.le_of_eq HB.out.symm))
  clear hown hgrow
  generalize Value.slice (some ⟨w.heap.size, 0, none⟩) 0 keys.length = v1 at *
  go_wp2_with fail
  go_loopw [16, 5] (fun s v wr => ∃ k : Nat, k ≤ keys.length ∧ s = .int .i64 k ∧ Hid (wr.ownsRow B 2 1 v (keyL row (keys.take k)).length ((keyL row (keys.take k)).map (Value.int .i64))) ∧ Hid (Below B w wr)) (fun s _ _ => keys.length - (intOf s).toNat)
  case atStart => exact ⟨0, Nat.zero_le _, rfl, O1, B1⟩
  case round =>
    obtain ⟨k, hk', rfl, HO, HBe⟩ := hrel
    have hBr : B ≤ wr.heap.size := by have := HBe.out.size; rw [HB.out] at this; exact this
    have hll : (keyL row (keys.take k)).length ≤ 1000000 := by have := keyL_len row (keys.take k); simp at this; omega
    by_cases hlt : k < keys.length
    · obtain ⟨b2, off2, rfl, hb2, hc2⟩ := (HK.out.belowB HB.out HBe.out).at hlt
      have ST := Lib.hid (keyL_take (row := row) hlt)
      generalize keys[k]?.getD 0 = z at *
      obtain ⟨L, hL⟩ : ∃ L, keyL row (keys.take k) = L := ⟨_, rfl⟩
      rw [hL] at HO ST hll
      clear hL
      by_cases h0 : 0 ≤ z ∧ z < (row.length : Int)
      · obtain ⟨j, rfl⟩ : ∃ j : Nat, z = j := ⟨z.toNat, by omega⟩
        have hj : j < row.length := by omega
        obtain ⟨b3, off3, rfl, hb3, hc3⟩ := (HA.out.belowB HB.out HBe.out).at hj
        have S2 : Hid (keyL row (keys.take (k + 1)) = L ++ [row[j]?.getD 0]) := Lib.hid (by rw [ST.out, if_pos h0]; rfl)
        generalize row[j]?.getD 0 = y at *
        clear ST h0
        have t1 : decide ((0 : Int) ≤ (j : Int)) = true := decide_eq_true (by omega)
        have t2 : decide ((j : Int) < (row.length : Int)) = true := decide_eq_true (by omega)
        go_wp2_with (first | (at_builtin; refine wpList_append_own _ rfl _ _ 40 rfl B 2 i1 (.int .i64 0) 1 8 Try.underlying40 I'.out Z0'.out Z1'.out Z2'.out rfl (by decide) _ _ _ rfl (HO.out.alloc _) ⟨wr.heap.size, 0, none⟩ 1 1 [.int .i64 y] rfl rfl ?c1 ?c2 ?c3 ?c4 ?c5 ?_))
        case c1 => exact cell_one_new wr _ _
        case c2 => intro u hu; simp at hu; subst hu; rfl
        case c3 => unfold maxLen; omega
        case c4 => omega
        case c5 => simp; omega
        intro v' w2 hown' hgrow _
        have R := app_step hBr HBe.out HO.out hown' hgrow
        have O2 := Lib.hid R.1
        have B2 := Lib.hid R.2
        rw [← S2.out] at O2
        clear hown' hgrow R hc2 hc3
        go_wp2_with fail
        go_roundw
        case rel => exact ⟨k + 1, by omega, by go_num, O2, B2⟩
        case measure => simp [intOf]; omega
      · have S2 : Hid (keyL row (keys.take (k + 1)) = L) := Lib.hid (by rw [ST.out, if_neg h0])
        have HO2 := HO
        rw [← S2.out] at HO2
        clear ST
        by_cases hz : 0 ≤ z
        · have t1 : decide ((0 : Int) ≤ z) = true := decide_eq_true hz
          have t2 : decide (z < (row.length : Int)) = false := decide_eq_false (by omega)
          clear h0
          go_wp2_with fail
          go_roundw
          case rel => exact ⟨k + 1, by omega, by go_num, HO2, HBe⟩
          case measure => simp [intOf]; omega
        · have t1 : decide ((0 : Int) ≤ z) = false := decide_eq_false hz
          clear h0 hz
          go_wp2_with fail
          go_roundw
          case rel => exact ⟨k + 1, by omega, by go_num, HO2, HBe⟩
          case measure => simp [intOf]; omega
    · have hfin := HO.out
      rw [List.take_of_length_le (by omega)] at hfin
      obtain ⟨a9, c9, ha9, hrow, hcap, hfr⟩ := fresh_of_owns hfin
      rw [ha9]
      have HRw := Lib.hid hrow
      have HC := Lib.hid hcap
      have HF := Lib.hid hfr
      clear hfin hrow ha9 hcap hfr
      go_wp2_with fail
      go_ret
      exact ⟨a9, c9, rfl, HRw.out, HC.out, by rw [HB.out]; exact HF.out, by rw [HB.out]; exact HBe.out⟩
set_option maxRecDepth 100000 in
set_option maxHeartbeats 2000000 in
theorem keyBF_calls (a b : Option Addr) (ca cb : Nat) (row keys : List Int) (w : World) (ha : Row w a row) (hb : Row w b keys) (hr : row.length ≤ 1000000) (hk : keys.length ≤ 1000000) (hmin : ¬ (keys.length : Int) ≤ (row.length : Int)) :
    Calls Try.prog 44 #[.slice a row.length ca, .slice b keys.length cb] w (FreshRet w (keyL row keys)) := by
  obtain ⟨i1, hi', hz0', hz1', hz2'⟩ := info_parts info2
  have I' := Lib.hid hi'
  have Z0' := Lib.hid hz0'
  have Z1' := Lib.hid hz1'
  have Z2' := Lib.hid hz2'
  clear hi' hz0' hz1' hz2'
  obtain ⟨B, hB⟩ : ∃ B, w.heap.size = B := ⟨_, rfl⟩
  have HB := Lib.hid hB
  have HA := Lib.hid ha
  have HK := Lib.hid hb
  clear hB ha hb
  go_enter Try.func44, Try.ntmps44
  go_wp2_with (first | (refine wpList_make_own _ rfl _ _ 40 rfl B 2 i1 (.int .i64 0) 1 Try.underlying40 I'.out Z0'.out Z1'.out .i64 .i64 _ row.length rfl rfl ?m0 ?m1 ?m2 ?m3 ?_))
  case m0 => first | rfl | (simp; omega) | omega
  case m1 => rw [Z2'.out]; omega
  case m2 => unfold maxLen; omega
  case m3 => rw [HB.out]; exact Nat.le_refl _
  intro w1 hown hgrow
  have O1 := Lib.hid hown
  have B1 : Hid (Below B w w1) := Lib.hid (grown_belowK hgrow (Nat.le_of_eq HB.out.symm))
  clear hown hgrow
  generalize Value.slice (some ⟨w.heap.size, 0, none⟩) 0 row.length = v1 at *
  go_wp2_with fail
  go_loopw [16, 5] (fun s v wr => ∃ k : Nat, k ≤ keys.length ∧ s = .int .i64 k ∧ Hid (wr.ownsRow B 2 1 v (keyL row (keys.take k)).length ((keyL row (keys.take k)).map (Value.int .i64))) ∧ Hid (Below B w wr)) (fun s _ _ => keys.length - (intOf s).toNat)
  case atStart => exact ⟨0, Nat.zero_le _, rfl, O1, B1⟩
  case round =>
    obtain ⟨k, hk', rfl, HO, HBe⟩ := hrel
    have hBr : B ≤ wr.heap.size := by have := HBe.out.size; rw [HB.out] at this; exact this
    have hll : (keyL row (keys.take k)).length ≤ 1000000 := by have := keyL_len row (keys.take k); simp at this; omega
    by_cases hlt : k < keys.length
    · obtain ⟨b2, off2, rfl, hb2, hc2⟩ := (HK.out.belowB HB.out HBe.out).at hlt
      have ST := Lib.hid (keyL_take (row := row) hlt)
      generalize keys[k]?.getD 0 = z at *
      obtain ⟨L, hL⟩ : ∃ L, keyL row (keys.take k) = L := ⟨_, rfl⟩
      rw [hL] at HO ST hll
      clear hL
      by_cases h0 : 0 ≤ z ∧ z < (row.length : Int)
      · obtain ⟨j, rfl⟩ : ∃ j : Nat, z = j := ⟨z.toNat, by omega⟩
        have hj : j < row.length := by omega
        obtain ⟨b3, off3, rfl, hb3, hc3⟩ := (HA.out.belowB HB.out HBe.out).at hj
        have S2 : Hid (keyL row (keys.take (k + 1)) = L ++ [row[j]?.getD 0]) := Lib.hid (by rw [ST.out, if_pos h0]; rfl)
        generalize row[j]?.getD 0 = y at *
        clear ST h0
        have t1 : decide ((0 : Int) ≤ (j : Int)) = true := decide_eq_true (by omega)
        have t2 : decide ((j : Int) < (row.length : Int)) = true := decide_eq_true (by omega)
        go_wp2_with (first | (at_builtin; refine wpList_append_own _ rfl _ _ 40 rfl B 2 i1 (.int .i64 0) 1 8 Try.underlying40 I'.out Z0'.out Z1'.out Z2'.out rfl (by decide) _ _ _ rfl (HO.out.alloc _) ⟨wr.heap.size, 0, none⟩ 1 1 [.int .i64 y] rfl rfl ?c1 ?c2 ?c3 ?c4 ?c5 ?_))
        case c1 => exact cell_one_new wr _ _
        case c2 => intro u hu; simp at hu; subst hu; rfl
        case c3 => unfold maxLen; omega
        case c4 => omega
        case c5 => simp; omega
        intro v' w2 hown' hgrow _
        have R := app_step hBr HBe.out HO.out hown' hgrow
        have O2 := Lib.hid R.1
        have B2 := Lib.hid R.2
        rw [← S2.out] at O2
        clear hown' hgrow R hc2 hc3
        go_wp2_with fail
        go_roundw
        case rel => exact ⟨k + 1, by omega, by go_num, O2, B2⟩
        case measure => simp [intOf]; omega
      · have S2 : Hid (keyL row (keys.take (k + 1)) = L) := Lib.hid (by rw [ST.out, if_neg h0])
        have HO2 := HO
        rw [← S2.out] at HO2
        clear ST
        by_cases hz : 0 ≤ z
        · have t1 : decide ((0 : Int) ≤ z) = true := decide_eq_true hz
          have t2 : decide (z < (row.length : Int)) = false := decide_eq_false (by omega)
          clear h0
          go_wp2_with fail
          go_roundw
          case rel => exact ⟨k + 1, by omega, by go_num, HO2, HBe⟩
          case measure => simp [intOf]; omega
        · have t1 : decide ((0 : Int) ≤ z) = false := decide_eq_false hz
          clear h0 hz
          go_wp2_with fail
          go_roundw
          case rel => exact ⟨k + 1, by omega, by go_num, HO2, HBe⟩
          case measure => simp [intOf]; omega
    · have hfin := HO.out
      rw [List.take_of_length_le (by omega)] at hfin
      obtain ⟨a9, c9, ha9, hrow, hcap, hfr⟩ := fresh_of_owns hfin
      rw [ha9]
      have HRw := Lib.hid hrow
      have HC := Lib.hid hcap
      have HF := Lib.hid hfr
      clear hfin hrow ha9 hcap hfr
      go_wp2_with fail
      go_ret
      exact ⟨a9, c9, rfl, HRw.out, HC.out, by rw [HB.out]; exact HF.out, by rw [HB.out]; exact HBe.out⟩
theorem keyF_calls (a b : Option Addr) (ca cb : Nat) (row keys : List Int) (w : World) (ha : Row w a row) (hb : Row w b keys) (hr : row.length ≤ 1000000) (hk : keys.length ≤ 1000000) :
    Calls Try.prog 44 #[.slice a row.length ca, .slice b keys.length cb] w (FreshRet w (keyL row keys)) := by
  by_cases h : (keys.length : Int) ≤ (row.length : Int)
  · exact keyAF_calls a b ca cb row keys w ha hb hr hk h
  · exact keyBF_calls a b ca cb row keys w ha hb hr hk h

/-- A keyed row: its key as a value, its number. -/
abbrev KE := RV × Nat
def flatK (L : List KE) : List Value := L.flatMap fun e => [encV e.1, .int .i64 e.2]
theorem flatK_append (l r : List KE) : flatK (l ++ r) = flatK l ++ flatK r := by simp [flatK]
theorem flatK_one (x : KE) : flatK [x] = [encV x.1, .int .i64 x.2] := by simp [flatK]
/-- Its key may be read, in a block of its own. -/
def KRead (W : World) (v : Value) (b5 : Nat) (x : KE) : Prop := (Row W x.1.1 x.1.2.1 ∧ x.1.2.1.length ≤ x.1.2.2) ∧ ∀ p, x.1.1 = some p → p.block < W.heap.size ∧ v.ownBlock ≠ some p.block ∧ p.block ≠ b5
theorem Row.kc {B : Nat} {W W' : World} {a : Option Addr} {zs : List Int} (h : Row W a zs) (hk : KC B W W') : Row W' a zs := by
  rcases h with rfl | ⟨b, off, rfl, hlt, hc⟩
  · exact .inl rfl
  · exact .inr ⟨b, off, rfl, Nat.lt_of_lt_of_le hlt hk.size, fun i hi => hk.cell (hc i hi)⟩
theorem Boxed.kc {B b : Nat} {W W' : World} {t : TypeId} {v : Value} (h : Boxed W b t v) (hk : KC B W W') : Boxed W' b t v := (hk.block b h.lt (.inr ⟨_, h, rfl⟩)).trans h
theorem owns_kc {B : Nat} {W W' : World} {base : Nat} {t : TypeId} {k : Nat} {v : Value} {n : Nat} {xs : List Value} (h : W.ownsRow base t k v n xs) (hk : KC B W W') : W'.ownsRow base t k v n xs := by
  refine ⟨h.1, ?_⟩
  rcases h.2 with h2 | ⟨g, cap, cur, e, hb, hh, hr⟩
  · exact .inl h2
  · exact .inr ⟨g, cap, cur, e, hb, (hk.block g (Array.getElem?_eq_some_iff.1 hh).1 (.inr ⟨_, hh, rfl⟩)).trans hh, hr⟩
/-- The list under way: in its box, its keys beside it; keys and relation in theirs. -/
structure BK (B b3 b5 Bp : Nat) (w : World) (p a : Option Addr) (ca nk : Nat) (W : World) (L : List KE) : Prop where
  v : ∃ v, Boxed W b5 76 v ∧ W.ownsRow B 78 2 v L.length (flatK L) ∧ ∀ x ∈ L, KRead W v b5 x
  ks : Boxed W b3 23 (.slice a nk ca)
  ptr : Boxed W Bp 27 (.pointer p)
  below : Below B w W
theorem BK.kc {B b3 b5 Bp : Nat} {w : World} {p a : Option Addr} {ca nk : Nat} {W W' : World} {L : List KE} (h : BK B b3 b5 Bp w p a ca nk W L) (hB : B ≤ W.heap.size) (hk : KC B W W') : BK B b3 b5 Bp w p a ca nk W' L := by
  obtain ⟨v, h1, h2, h3⟩ := h.v
  exact ⟨⟨v, Boxed.kc h1 hk, owns_kc h2 hk, fun x hx => ⟨⟨(h3 x hx).1.1.kc hk, (h3 x hx).1.2⟩, fun q hq => ⟨Nat.lt_of_lt_of_le ((h3 x hx).2 q hq).1 hk.size, ((h3 x hx).2 q hq).2⟩⟩⟩, Boxed.kc h.ks hk, Boxed.kc h.ptr hk, hk.below h.below hB⟩
theorem BK.size {B b3 b5 Bp : Nat} {w : World} {p a : Option Addr} {ca nk : Nat} {W : World} {L : List KE} (h : BK B b3 b5 Bp w p a ca nk W L) (hB : w.heap.size = B) : B ≤ W.heap.size := by have := h.below.size; omega
/-- One more keyed row. -/
theorem bk_push {B b3 b5 Bp : Nat} {w : World} {p a : Option Addr} {ca nk : Nat} {W W1 w3 : World} {L : List KE} {v v' : Value} {x : KE} {o : Obj} (hB : B ≤ W.heap.size) (h5 : B ≤ b5) (h35 : b3 ≠ b5) (hp5 : Bp ≠ b5)
    (hv : Boxed W b5 76 v) (hrow : W.ownsRow B 78 2 v L.length (flatK L)) (hr : ∀ x ∈ L, KRead W v b5 x) (hks : Boxed W b3 23 (.slice a nk ca)) (hptr : Boxed W Bp 27 (.pointer p)) (hbel : Below B w W)
    (hb1 : Below W.heap.size W W1) (hx : Row W1 x.1.1 x.1.2.1) (hxl : x.1.2.1.length ≤ x.1.2.2) (hxf : ∀ q, x.1.1 = some q → W.heap.size ≤ q.block ∧ q.block < W1.heap.size)
    (hown : w3.ownsRow B 78 2 v' (L.length + 1) (flatK L ++ [encV x.1, .int .i64 x.2])) (hgrow : (W1.alloc o).grownBy w3 v.ownBlock) (hat : v'.ownBlock = v.ownBlock ∨ v'.ownBlock = some (W1.alloc o).heap.size) :
    Boxed w3 b5 76 v ∧ KeepsOthers W (w3.setCell ⟨b5, 0, none⟩ v') ∧ BK B b3 b5 Bp w p a ca nk (w3.setCell ⟨b5, 0, none⟩ v') (L ++ [x]) := by
  have k1 := KC.of_below (B := B) hb1
  have g1 : W.grownBy W1 none := ⟨hb1.os, hb1.tape, hb1.output, hb1.size, fun k hk _ => hb1.block k hk⟩
  have rowI := owns_kc hrow k1
  have A := Boxed.appended (Boxed.kc hv k1) (by decide) rowI (Nat.le_trans hB hb1.size) h5 hown hgrow
  obtain ⟨a1, a2, a3, a4, a5⟩ := A
  have olt : ∀ k, v.ownBlock = some k → k < W.heap.size := fun k hk => (hrow.lt k hk).2
  have KN : Keeps (fun b => v.ownBlock = some b ∨ b = b5) W1 (w3.setCell ⟨b5, 0, none⟩ v') := by
    refine (((Keeps.refl _ W1).alloc o).trans (Keeps.of_grown hgrow (fun b hb => .inl hb))).trans ?_
    exact Keeps.of_grown (grownBy_setCell' w3 b5 v') (fun b hb => .inr (by cases hb; rfl))
  have sz := KN.size
  have s3 : W1.heap.size + 1 ≤ w3.heap.size := by have := hgrow.size; simpa using this
  have bx : ∀ {b : Nat} {t : TypeId} {u : Value}, Boxed W b t u → t ≠ 78 → b ≠ b5 → Boxed (w3.setCell ⟨b5, 0, none⟩ v') b t u := fun {b t u} hb ht hne =>
    (((Boxed.kc hb k1).alloc o).kept hgrow ((Boxed.kc hb k1).not_row ht rowI)).other hne _
  refine ⟨a1, ?_, ⟨⟨v', a2, by rw [flatK_append, flatK_one, List.length_append]; exact a3, fun y hy => ?_⟩, bx hks (by decide) h35, bx hptr (by decide) hp5, ?_⟩⟩
  · exact (KeepsOthers.of_grownBy g1 (fun j o e => by cases e)).trans a4
  · have all : (Row W1 y.1.1 y.1.2.1 ∧ y.1.2.1.length ≤ y.1.2.2) → (∀ q, y.1.1 = some q → q.block < W1.heap.size ∧ v.ownBlock ≠ some q.block ∧ q.block ≠ b5) → KRead (w3.setCell ⟨b5, 0, none⟩ v') v' b5 y := by
      intro h1 h2
      refine ⟨⟨h1.1.keeps KN (fun q hq hn => ?_), h1.2⟩, fun q hq => ⟨Nat.lt_of_lt_of_le (h2 q hq).1 sz, fun e => ?_, (h2 q hq).2.2⟩⟩
      · rcases hn with hn | hn
        · exact (h2 q hq).2.1 hn
        · exact (h2 q hq).2.2 hn
      · rcases hat with e1 | e1
        · rw [e1] at e; exact (h2 q hq).2.1 e
        · rw [e1] at e; simp at e; have := (h2 q hq).1; omega
    rcases List.mem_append.1 hy with h1 | h1
    · exact all ⟨(hr y h1).1.1.kc k1, (hr y h1).1.2⟩ (fun q hq => ⟨Nat.lt_of_lt_of_le ((hr y h1).2 q hq).1 hb1.size, ((hr y h1).2 q hq).2⟩)
    · obtain rfl : y = x := by simpa using h1
      refine all ⟨hx, hxl⟩ (fun q hq => ⟨(hxf q hq).2, fun e => ?_, fun e => ?_⟩)
      · have := olt _ e; have := (hxf q hq).1; omega
      · have := hv.lt; have := (hxf q hq).1; omega
  · exact (hbel.trans (hb1.mono hB)).trans a5
/-- The law on append, at the operation, told with the block. -/
theorem wp_append_own_at {P : Program} (w : World) {o : Oper} {a : Act} {K : Act → World → Prop} {Q : Exit → Act → World → Prop} (s x : Operand) (t : TypeId)
    (ho : o.op = .call { callee := .builtin .append, args := #[s, x], argTypes := #[t, t] })
    (base : Nat) (e : TypeId) (i : TypeInfo) (z : Value) (size bytes : Nat) (ht : P.underlying t = some (.slice e)) (hi : P.info? e = some i) (hz : i.zero = some z)
    (hsize : i.size = size) (hby : i.bytes = bytes) (hzs : z.cells.size = size) (hsz : 0 < size)
    (v : Value) (n : Nat) (xs : List Value) (hs : a.eval s = v) (hown : w.ownsRow base e size v n xs)
    (ad : Addr) (m c : Nat) (news : List Value) (hx : a.eval x = .slice (some ad) m c) (hl : news.length = m * size) (hnews : ∀ j u, news[j]? = some u → w.cell? (ad.add j) = some u) (h1 : ∀ u ∈ news, u.oneCell' = true)
    (h63 : n + m ≤ maxLen) (hbytes : (n + m) * bytes ≤ 140737488355328) (hbase : base ≤ w.heap.size)
    (h : ∀ v' w', w'.ownsRow base e size v' (n + m) (xs ++ news) → w.grownBy w' v.ownBlock → (v'.ownBlock = v.ownBlock ∨ v'.ownBlock = some w.heap.size) → K (a.put o.dst v') w') : o.wp P a w K Q := by
  obtain ⟨v', w', hr, h2, h3, h4, h5⟩ := run_append_own_at (P := P) w base t o.type e i z size bytes ht hi hz hsize hby hzs hsz v n xs hown ad m c news hl hnews h1 h63 hbytes hbase
  unfold Oper.wp execOp
  simp only [ho, resolve, invoke, builtin, Sem.run_bind, Sem.run_pure, Result.andThen_ok, List.map_toArray, List.map_cons, List.map_nil, hs, hx, hr]
  exact h v' w' h2 h3 h5
theorem info78 : (Try.prog.info? 78).map (fun i => (i.zero, i.size, i.bytes)) = some (some (.agg #[.slice none 0 0, .int .i64 0]), 2, 32) := by kernel_rfl
end Go.Proofs.Ytcecndjkfdaaaaa
