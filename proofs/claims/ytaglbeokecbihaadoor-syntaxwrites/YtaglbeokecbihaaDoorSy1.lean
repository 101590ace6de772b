/- Tables of signs and words, numerals, terms and how they are written. -/
import Derived.Test.YtaglbeokecbihaaDoorSyQ
import Derived.Lib.AppendIntMem
import Derived.Lib.ItoaLen
namespace Go.Proofs.YtaglbeokecbihaaDoor
open Go.RowKit
set_option linter.unusedVariables false
set_option linter.unusedSimpArgs false

def colL : List Bytes := [[61], [33, 61], [60], [60, 61], [62], [62, 61]]
def ariL : List Bytes := [[43], [45], [42], [47], [37]]
def wrdL : List Bytes := [[], [99, 111, 117, 110, 116], [115, 117, 109], [109, 105, 110], [109, 97, 120]]
def colS (i : Nat) : ByteArray := ⟨(colL.getD i []).toArray⟩
def ariS (i : Nat) : ByteArray := ⟨(ariL.getD i []).toArray⟩
def wrdS (i : Nat) : ByteArray := ⟨(wrdL.getD i []).toArray⟩
/-- The tables lie in memory. -/
structure STab (w : World) : Prop where
  col : ∀ i, i < 6 → w.cell? ⟨0, i, none⟩ = some (.string (colS i))
  ari : ∀ i, i < 5 → w.cell? ⟨1, i, none⟩ = some (.string (ariS i))
  wrd : ∀ i, i < 5 → w.cell? ⟨2, i, none⟩ = some (.string (wrdS i))
  pow : Lib.TabBelow Tryd.prog 6 w "internal/strconv.uint64pow10" .u64 Lib.pow10Tab
  sz : 6 ≤ w.heap.size
/-- The tables lie on, whatever turns from block 6 on. -/
theorem STab.on {B : Nat} {w w' : World} (h : STab w) (hB : 6 ≤ B) (hb : Below B w w') : STab w' :=
  ⟨fun i hi => (hb.cell (p := ⟨0, i, none⟩) (by show 0 < B; omega)).trans (h.col i hi), fun i hi => (hb.cell (p := ⟨1, i, none⟩) (by show 1 < B; omega)).trans (h.ari i hi), fun i hi => (hb.cell (p := ⟨2, i, none⟩) (by show 2 < B; omega)).trans (h.wrd i hi), h.pow.on (hb.mono hB), Nat.le_trans h.sz hb.size⟩
theorem STab.below {w w' : World} (h : STab w) (hb : Below w.heap.size w w') : STab w' := h.on h.sz hb
theorem ret_s {x y : ByteArray} (h : x = y) : Ending.returned (.string x) = .returned (.string y) := by rw [h]
def itoaT (n : Int) : ByteArray := ⟨(Lib.itoa n).toArray⟩
theorem itoaT_size (n : Int) (h0 : -9223372036854775808 ≤ n) (h1 : n ≤ 9223372036854775807) : (itoaT n).size ≤ 21 := by
  have := Lib.itoa_length_le n h0 h1
  unfold itoaT; rw [size_lit]; exact this
theorem fmt_calls (n : Int) (h0 : -9223372036854775808 ≤ n) (h1 : n ≤ 9223372036854775807) (w : World) (ht : STab w) : Calls Tryd.prog 39 #[.int .i64 n, .int .i64 10] w (StrRet w (itoaT n)) := by
  have ci := Tryd.internal_strconv_FormatInt_10 n h0 h1 w ht.pow.here
  clear ht
  obtain ⟨t, htt⟩ : ∃ t, itoaT n = t := ⟨_, rfl⟩
  have hx : (⟨(Lib.itoa n).toArray⟩ : ByteArray) = t := htt
  rw [hx] at ci
  rw [htt]
  clear htt hx
  go_enter Tryd.func39, Tryd.ntmps39
  go_wp2_with fail
  refine ci.mono ?_
  rintro e w' ⟨rfl, k, os, rfl⟩
  have hb : Hid (Below w.heap.size w (Go.Sort.grow (w.drewN k) os)) := Lib.hid (Lib.below_grow _ w (Nat.le_refl _) k os)
  generalize Go.Sort.grow (w.drewN k) os = w1 at *
  clear ci
  go_wp2_with fail
  go_ret
  exact ⟨rfl, hb.out⟩
/-- A term. -/
structure Tm where
  kind : Int
  text : ByteArray
  n : Int
noncomputable def plainB (s : ByteArray) : Bool := @decide (PlainP s) (Classical.propDecidable _)
theorem plainB_iff (s : ByteArray) : plainB s = true ↔ PlainP s := by unfold plainB; exact @decide_eq_true_iff _ (Classical.propDecidable _)
theorem plainB_calls (s : ByteArray) (w : World) (hs : s.size ≤ 1000) : Calls Tryd.prog 40 #[.string s] w fun e w' => e = .returned (.bool (plainB s)) ∧ w = w' :=
  (plain_calls s w hs).mono fun e w' ⟨⟨b, h1, h2⟩, h3⟩ => ⟨by
    have : b = plainB s := by
      have h4 := h2.trans (plainB_iff s).symm
      cases b <;> cases h : plainB s <;> simp_all
    rw [h1, this], h3⟩
def tmC (t : Tm) : Array Value := #[.int .i64 t.kind, .string t.text, .int .i64 t.n]
/-- A term as it is written. -/
noncomputable def termT (t : Tm) : ByteArray := if t.kind = 1 then itoaT t.n else if t.kind = 2 ∧ plainB t.text = false then qT t.text else t.text
structure TmOK (t : Tm) : Prop where
  k : t.kind = 0 ∨ t.kind = 1 ∨ t.kind = 2
  n0 : -9223372036854775808 ≤ t.n
  n1 : t.n ≤ 9223372036854775807
  s : t.text.size ≤ 20
theorem qT_size (s : ByteArray) : (qT s).size ≤ 2 * s.size + 2 := by
  have := quoteM_len (bs s)
  rw [bs_len] at this
  unfold qT quoteT
  rw [size_lit, List.length_cons, List.length_append]
  simp only [List.length_cons, List.length_nil]
  omega
theorem termT_size {t : Tm} (h : TmOK t) : (termT t).size ≤ 42 := by
  unfold termT
  have h1 := itoaT_size t.n h.n0 h.n1
  have h2 := qT_size t.text
  have h3 := h.s
  split
  · omega
  · split <;> omega
set_option maxRecDepth 100000 in
set_option maxHeartbeats 1000000 in
theorem termString_calls (t : Tm) (ht : TmOK t) (w : World) (hw : STab w) : Calls Tryd.prog 12 #[.agg #[.int .i64 t.kind, .string t.text, .int .i64 t.n]] w (StrRet w (termT t)) := by
  obtain ⟨kind, text, n⟩ := t
  obtain ⟨hk, hn0, hn1, hs⟩ := ht
  simp only at hk hn0 hn1 hs ⊢
  obtain ⟨B, hB⟩ : ∃ B, w.heap.size = B := ⟨_, rfl⟩
  have HB := Lib.hid hB
  have BX : Hid (Below B w (w.alloc (.cells #[.int .i64 kind, .string text, .int .i64 n] 44))) := Lib.hid ((Below.refl B w).alloc (by omega) _)
  have HX : Hid (STab (w.alloc (.cells #[.int .i64 kind, .string text, .int .i64 n] 44))) := Lib.hid (hw.below ((Below.refl _ w).alloc (Nat.le_refl _) _))
  have SX : Hid (B ≤ (w.alloc (.cells #[.int .i64 kind, .string text, .int .i64 n] 44)).heap.size) := Lib.hid (by simp; omega)
  clear hw hB
  rcases hk with rfl | rfl | rfl
  · have DF : Hid (termT ⟨0, text, n⟩ = text) := Lib.hid (by unfold termT; simp)
    go_enter Tryd.func12, Tryd.ntmps12
    go_wp2_with fail
    go_ret
    exact ⟨ret_s DF.out.symm, by rw [HB.out]; exact BX.out⟩
  · have DF : Hid (termT ⟨1, text, n⟩ = itoaT n) := Lib.hid (by unfold termT; simp)
    have cf := fun W (h : STab W) => fmt_calls n hn0 hn1 W h
    generalize itoaT n = r at *
    go_enter Tryd.func12, Tryd.ntmps12
    go_wp2_with fail
    refine (cf _ HX.out).mono ?_
    generalize World.alloc w _ = W0 at *
    rintro e w1 ⟨rfl, hb1⟩
    have B1 : Hid (Below B w w1) := Lib.hid (BX.out.trans (hb1.mono SX.out))
    clear hb1 cf
    go_wp2_with fail
    go_ret
    exact ⟨ret_s DF.out.symm, by rw [HB.out]; exact B1.out⟩
  · cases hp : plainB text with
    | true =>
      have DF : Hid (termT ⟨2, text, n⟩ = text) := Lib.hid (by unfold termT; simp [hp])
      have cp := fun W => plainB_calls text W (by omega)
      rw [hp] at cp
      clear hp
      go_enter Tryd.func12, Tryd.ntmps12
      go_wp2_with fail
      refine (cp _).mono ?_
      rintro e w' ⟨rfl, rfl⟩
      go_wp2_with fail
      go_ret
      exact ⟨ret_s DF.out.symm, by rw [HB.out]; exact BX.out⟩
    | false =>
      have DF : Hid (termT ⟨2, text, n⟩ = qT text) := Lib.hid (by unfold termT; simp [hp])
      have cp := fun W => plainB_calls text W (by omega)
      have cq := fun W => quote_calls text W (by omega)
      rw [hp] at cp
      clear hp
      generalize qT text = r at *
      go_enter Tryd.func12, Tryd.ntmps12
      go_wp2_with fail
      refine (cp _).mono ?_
      rintro e w' ⟨rfl, rfl⟩
      go_wp2_with fail
      refine (cq _).mono ?_
      generalize World.alloc w _ = W0 at *
      rintro e w1 ⟨rfl, hb1⟩
      have B1 : Hid (Below B w w1) := Lib.hid (BX.out.trans (hb1.mono SX.out))
      clear hb1 cq cp
      go_wp2_with fail
      go_ret
      exact ⟨ret_s DF.out.symm, by rw [HB.out]; exact B1.out⟩
set_option maxRecDepth 100000 in
set_option maxHeartbeats 1000000 in
theorem text_calls (t : Tm) (ht : TmOK t) (w : World) (hw : STab w) : Calls Tryd.prog 13 #[.agg #[.int .i64 t.kind, .string t.text, .int .i64 t.n]] w (StrRet w (termT t)) := by
  obtain ⟨kind, text, n⟩ := t
  obtain ⟨hk, hn0, hn1, hs⟩ := ht
  simp only at hk hn0 hn1 hs ⊢
  obtain ⟨B, hB⟩ : ∃ B, w.heap.size = B := ⟨_, rfl⟩
  have HB := Lib.hid hB
  have BX : Hid (Below B w (w.alloc (.cells #[.int .i64 kind, .string text, .int .i64 n] 44))) := Lib.hid ((Below.refl B w).alloc (by omega) _)
  have HX : Hid (STab (w.alloc (.cells #[.int .i64 kind, .string text, .int .i64 n] 44))) := Lib.hid (hw.below ((Below.refl _ w).alloc (Nat.le_refl _) _))
  have SX : Hid (B ≤ (w.alloc (.cells #[.int .i64 kind, .string text, .int .i64 n] 44)).heap.size) := Lib.hid (by simp; omega)
  clear hw hB
  rcases hk with rfl | rfl | rfl
  · have DF : Hid (termT ⟨0, text, n⟩ = text) := Lib.hid (by unfold termT; simp)
    go_enter Tryd.func13, Tryd.ntmps13
    go_wp2_with fail
    go_ret
    exact ⟨ret_s DF.out.symm, by rw [HB.out]; exact BX.out⟩
  · have DF : Hid (termT ⟨1, text, n⟩ = itoaT n) := Lib.hid (by unfold termT; simp)
    have cf := fun W (h : STab W) => fmt_calls n hn0 hn1 W h
    generalize itoaT n = r at *
    go_enter Tryd.func13, Tryd.ntmps13
    go_wp2_with fail
    refine (cf _ HX.out).mono ?_
    generalize World.alloc w _ = W0 at *
    rintro e w1 ⟨rfl, hb1⟩
    have B1 : Hid (Below B w w1) := Lib.hid (BX.out.trans (hb1.mono SX.out))
    clear hb1 cf
    go_wp2_with fail
    go_ret
    exact ⟨ret_s DF.out.symm, by rw [HB.out]; exact B1.out⟩
  · cases hp : plainB text with
    | true =>
      have DF : Hid (termT ⟨2, text, n⟩ = text) := Lib.hid (by unfold termT; simp [hp])
      have cp := fun W => plainB_calls text W (by omega)
      rw [hp] at cp
      clear hp
      go_enter Tryd.func13, Tryd.ntmps13
      go_wp2_with fail
      refine (cp _).mono ?_
      rintro e w' ⟨rfl, rfl⟩
      go_wp2_with fail
      go_ret
      exact ⟨ret_s DF.out.symm, by rw [HB.out]; exact BX.out⟩
    | false =>
      have DF : Hid (termT ⟨2, text, n⟩ = qT text) := Lib.hid (by unfold termT; simp [hp])
      have cp := fun W => plainB_calls text W (by omega)
      have cq := fun W => quote_calls text W (by omega)
      rw [hp] at cp
      clear hp
      generalize qT text = r at *
      go_enter Tryd.func13, Tryd.ntmps13
      go_wp2_with fail
      refine (cp _).mono ?_
      rintro e w' ⟨rfl, rfl⟩
      go_wp2_with fail
      refine (cq _).mono ?_
      generalize World.alloc w _ = W0 at *
      rintro e w1 ⟨rfl, hb1⟩
      have B1 : Hid (Below B w w1) := Lib.hid (BX.out.trans (hb1.mono SX.out))
      clear hb1 cq cp
      go_wp2_with fail
      go_ret
      exact ⟨ret_s DF.out.symm, by rw [HB.out]; exact B1.out⟩
end Go.Proofs.YtaglbeokecbihaaDoor
