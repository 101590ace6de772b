/- Package fault: writing a fault's text into a Builder; the text of a chain of faults. -/
import Derived.Test.YtfcjiiogigfjkaaDoorFaultErr
namespace Go.Proofs.YtfcjiiogigfjkaaDoor
open Go.RowKit Go.Extern.Stop Go.Stop Go.Extern
set_option linter.unusedVariables false

/-- What writing into the Builder at b leaves. -/
structure Kept (B b : Nat) (w w' : World) : Prop where
  below : Below B w w'
  others : Lib.OthersKept 5 (some b) w w'
theorem Kept.refl (B b : Nat) (w : World) : Kept B b w w := ⟨Below.refl _ _, Lib.OthersKept.refl _ _ _⟩
theorem Kept.trans {B b : Nat} {w1 w2 w3 : World} (h : Kept B b w1 w2) (k : Kept B b w2 w3) : Kept B b w1 w3 := ⟨h.below.trans k.below, h.others.trans k.others⟩
theorem Kept.of_ext {B b : Nat} {w w' : World} (h : Ext w w') (hB : B ≤ w.heap.size) : Kept B b w w' :=
  ⟨Below.mono h hB, fun k o hk _ _ => by
    have : k < w.heap.size := by
      rcases Nat.lt_or_ge k w.heap.size with h' | h'
      · exact h'
      · simp [Array.getElem?_eq_none h'] at hk
    rw [h.block k this]; exact hk⟩
theorem Kept.fault {B b : Nat} {w w' : World} (h : Kept B b w w') {g : Nat} {cs : Array Value} (hg : w.heap[g]? = some (.cells cs 44 (0, 0))) (hne : g ≠ b) : w'.heap[g]? = some (.cells cs 44 (0, 0)) :=
  h.others g _ hg (by simpa using fun e => hne e) (by intro c fz hh; cases hh)
theorem FW.below {B : Nat} {w w' : World} (h : FW w) (hB : 6 ≤ B) (k : Below B w w') : FW w' :=
  ⟨h.err.below (by omega) k, fun i hi => by rw [k.cell (p := ⟨0, i, none⟩) (by show 0 < B; omega)]; exact h.names i hi, var?_below k pow_global (by omega) h.tab⟩

theorem ws_calls (B b : Nat) (l : List UInt8) (s : ByteArray) (w : World) (h : IsB B b l w) (hlen : l.length + s.size ≤ 140737488355328) (hB : B ≤ w.heap.size) :
    Calls Tryd.prog 88 #[.pointer (some ⟨b, 0, none⟩), .string s] w fun e w' => e = .returned (.tuple #[.int .i64 s.size, .nilIface]) ∧ IsB B b (l ++ s.data.toList) w' ∧ Kept B b w w' :=
  (Tryd.ws_k B b (Lib.byteCells l) s w h (by rw [Lib.byteCells_length]; exact hlen) hB).mono fun e w' ⟨he, hb, hbel, hk⟩ => ⟨he, .inr (by simpa [Lib.byteCells, Lib.strCells] using hb), hbel, hk⟩

theorem dlen (s : ByteArray) : s.data.toList.length = s.size := by rw [Array.length_toList]; rfl
theorem size_mk_list (l : List UInt8) : (⟨l.toArray⟩ : ByteArray).size = l.length := by simp [ByteArray.size]
/-- The state of the writing: the Builder holds l, the boxed fault stands. -/
structure WS (B b g : Nat) (l : List UInt8) (cs : Array Value) (w w' : World) : Prop where
  isB : IsB B b l w'
  kept : Kept B b w w'
  box : w'.heap[g]? = some (.cells cs 44 (0, 0))
theorem WS.step {B b g : Nat} {l : List UInt8} {cs : Array Value} {w w1 w2 : World} {s : List UInt8} (h : WS B b g l cs w w1) (hne : g ≠ b) (h1 : IsB B b (l ++ s) w2) (h2 : Kept B b w1 w2) : WS B b g (l ++ s) cs w w2 :=
  ⟨h1, h.kept.trans h2, h2.fault h.box hne⟩
theorem WS.ext {B b g : Nat} {l : List UInt8} {cs : Array Value} {w w1 w2 : World} (h : WS B b g l cs w w1) (hB : B ≤ w1.heap.size) (k : Ext w1 w2) : WS B b g l cs w w2 := by
  have hg : g < w1.heap.size := by
    rcases Nat.lt_or_ge g w1.heap.size with h' | h'
    · exact h'
    · have := h.box; simp [Array.getElem?_eq_none h'] at this
  exact ⟨isB_ext h.isB k, h.kept.trans (Kept.of_ext k hB), by rw [k.block g hg]; exact h.box⟩
theorem WS.size {B b g : Nat} {l : List UInt8} {cs : Array Value} {w w1 : World} (h : WS B b g l cs w w1) : w.heap.size ≤ w1.heap.size := h.kept.below.size

set_option maxHeartbeats 2000000 in
theorem write_calls (B b : Nat) (l : List UInt8) (t a : Int) (s : ByteArray) (u : Value) (w : World) (hF : FW w) (h : IsB B b l w) (hlen : l.length + s.size + 100 ≤ 140737488355328) (hB : B ≤ w.heap.size) (hNG : 6 ≤ B) (hu : IsErr u) (hb : b < w.heap.size)
    (t0 : -9223372036854775808 ≤ t) (t1 : t ≤ 9223372036854775807) (a0 : -9223372036854775808 ≤ a) (a1 : a ≤ 9223372036854775807) :
    Calls Tryd.prog 86 #[.agg #[.int .i64 t, .int .i64 a, .string s, u], .pointer (some ⟨b, 0, none⟩)] w fun e w' => e = .returned (.tuple #[]) ∧ IsB B b (l ++ layerText (t, a, s)) w' ∧ Kept B b w w' := by
  have hne : w.heap.size ≠ b := by omega
  have tl := tagText_length t t0 t1
  have al := Lib.itoa_length_le a a0 a1
  have E1 : Ext w (w.alloc (.cells #[.int .i64 t, .int .i64 a, .string s, u] 44)) := (Ext.refl _).alloc _
  have S0 : WS B b w.heap.size l #[.int .i64 t, .int .i64 a, .string s, u] w (w.alloc (.cells #[.int .i64 t, .int .i64 a, .string s, u] 44)) := ⟨isB_ext h E1, Kept.of_ext E1 hB, heap_alloc_at _ _⟩
  go_enter Tryd.func86, Tryd.ntmps86
  go_wp2_with fail
  refine (tagerr_calls t _ (hF.ext E1) t0 t1).mono ?_
  rintro e w1 ⟨rfl, hx⟩
  have S1 := S0.ext (by simp; omega) hx
  have z1 : B ≤ w1.heap.size := Nat.le_trans hB S1.size
  have F1 := hF.below hNG S1.kept.below
  clear hx S0 E1
  generalize htt : tagText t = tt at *
  have HTT := Lib.hid htt
  clear htt
  go_wp2_with fail
  refine (ws_calls B b l _ _ S1.isB (by rw [size_mk_list]; omega) z1).mono ?_
  rintro e w2 ⟨rfl, hb2, hk2⟩
  have S2 := S1.step hne hb2 hk2
  have z2 : B ≤ w2.heap.size := Nat.le_trans hB S2.size
  have F2 := hF.below hNG S2.kept.below
  clear hb2 hk2 S1 z1 F1
  go_wp2_with fail
  refine (ws_calls B b _ _ _ S2.isB (by simp [ByteArray.size]; omega) z2).mono ?_
  rintro e w3 ⟨rfl, hb3, hk3⟩
  have S3 := S2.step hne hb3 hk3
  have z3 : B ≤ w3.heap.size := Nat.le_trans hB S3.size
  have F3 := hF.below hNG S3.kept.below
  clear hb3 hk3 S2 z2 F2
  obtain ⟨c0, c1, c2, c3⟩ := (cells_of_heap S3.box).1
  go_wp2_with fail
  refine (itoa_calls a _ F3 a0 a1).mono ?_
  rintro e w4 ⟨rfl, hx⟩
  have S4 := S3.ext z3 hx
  have z4 : B ≤ w4.heap.size := Nat.le_trans hB S4.size
  clear hx S3 z3 F3 c0 c1 c2 c3
  generalize hia : Lib.itoa a = ia at *
  have HIA := Lib.hid hia
  clear hia
  go_wp2_with fail
  refine (ws_calls B b _ _ _ S4.isB (by rw [size_mk_list]; simp; omega) z4).mono ?_
  rintro e w5 ⟨rfl, hb5, hk5⟩
  have S5 := S4.step hne hb5 hk5
  have z5 : B ≤ w5.heap.size := Nat.le_trans hB S5.size
  clear hb5 hk5 S4 z4
  obtain ⟨c0, c1, c2, c3⟩ := (cells_of_heap S5.box).1
  by_cases hs : s.data.toList = []
  · have hs0 : s = ⟨#[]⟩ := by
      apply ByteArray.ext; exact Array.toList_eq_nil_iff.1 hs
    subst hs0
    go_wp2_with fail
    go_end0
    refine ⟨rfl, ?_, S5.kept⟩
    have := S5.isB
    simpa [layerText, HTT.out, HIA.out] using this
  · have hst : s.toList.isEmpty = false := by rw [ByteArray.toList_eq]; simpa using hs
    have HS := Lib.hid hs
    clear hs
    go_wp2_with fail
    refine (ws_calls B b _ _ _ S5.isB (by simp [ByteArray.size]; omega) z5).mono ?_
    rintro e w6 ⟨rfl, hb6, hk6⟩
    have S6 := S5.step hne hb6 hk6
    have z6 : B ≤ w6.heap.size := Nat.le_trans hB S6.size
    clear hb6 hk6 S5 z5 c0 c1 c2 c3
    obtain ⟨c0, c1, c2, c3⟩ := (cells_of_heap S6.box).1
    go_wp2_with fail
    refine (ws_calls B b _ _ _ S6.isB (by simp; omega) z6).mono ?_
    rintro e w7 ⟨rfl, hb7, hk7⟩
    have S7 := S6.step hne hb7 hk7
    have z7 : B ≤ w7.heap.size := Nat.le_trans hB S7.size
    clear hb7 hk7 S6 z6 c0 c1 c2 c3
    go_wp2_with fail
    refine (ws_calls B b _ _ _ S7.isB (by
      have e1 : (⟨#[41]⟩ : ByteArray).size = 1 := rfl
      simp only [List.length_append, List.length_cons, List.length_nil, dlen, e1]; omega) z7).mono ?_
    rintro e w8 ⟨rfl, hb8, hk8⟩
    have S8 := S7.step hne hb8 hk8
    go_wp2_with fail
    go_end0
    refine ⟨rfl, ?_, S8.kept⟩
    have := S8.isB
    simpa [layerText, HTT.out, HIA.out, HS.out] using this

/-- What the text of a chain needs: its numbers are 64-bit ones, its texts are not too long. -/
def Sound (l : List (Int × Int × ByteArray)) : Prop := ∀ x ∈ l, (-9223372036854775808 ≤ x.1 ∧ x.1 ≤ 9223372036854775807) ∧ (-9223372036854775808 ≤ x.2.1 ∧ x.2.1 ≤ 9223372036854775807) ∧ x.2.2.size ≤ 1000000
theorem layerText_length (x : Int × Int × ByteArray) (h : (-9223372036854775808 ≤ x.1 ∧ x.1 ≤ 9223372036854775807) ∧ (-9223372036854775808 ≤ x.2.1 ∧ x.2.1 ≤ 9223372036854775807) ∧ x.2.2.size ≤ 1000000) : (layerText x).length ≤ 1000100 := by
  have h1 := tagText_length x.1 h.1.1 h.1.2
  have h2 := Lib.itoa_length_le x.2.1 h.2.1.1 h.2.1.2
  have h3 := h.2.2
  unfold layerText
  split <;> simp only [List.length_append, List.length_cons, List.length_nil, dlen] <;> omega

/-- The text of the first k faults of a chain, each with what stands ahead of the next. -/
def headText : List (Int × Int × ByteArray) → List UInt8
  | [] => []
  | x :: l => layerText x ++ [58, 32] ++ headText l
theorem headText_snoc (l : List (Int × Int × ByteArray)) (x : Int × Int × ByteArray) : headText (l ++ [x]) = headText l ++ (layerText x ++ [58, 32]) := by
  induction l with
  | nil => simp [headText]
  | cons y l ih => simp [headText, ih]
theorem errText_snoc (l : List (Int × Int × ByteArray)) (x : Int × Int × ByteArray) : errText (l ++ [x]) = headText l ++ layerText x := by
  induction l with
  | nil => simp [headText, errText]
  | cons y l ih =>
    cases l with
    | nil => simp [headText, errText]
    | cons z l => simp only [List.cons_append] at ih ⊢; rw [errText, ih]; simp [headText]
theorem headText_length (l : List (Int × Int × ByteArray)) (h : Sound l) : (headText l).length ≤ l.length * 1000102 := by
  induction l with
  | nil => simp [headText]
  | cons x l ih =>
    have h1 := layerText_length x (h x (by simp))
    have h2 := ih (fun y hy => h y (by simp [hy]))
    simp [headText]; omega
end Go.Proofs.YtfcjiiogigfjkaaDoor
