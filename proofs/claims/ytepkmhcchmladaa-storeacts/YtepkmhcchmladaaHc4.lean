import Derived.Test.YtepkmhcchmladaaSg1
import Derived.Test.YtepkmhcchmladaaRv
import Derived.Test.YtepkmhcchmladaaHpMath
/- A heap of cursors in memory; its order. Written by mkhc.py. -/
namespace Go.Proofs.Ytepkmhcchmladaa.Cu
open Go.RowKit
set_option linter.unusedVariables false
set_option linter.unusedSimpArgs false

/-- A cursor: its relation, its index, its row; an entry: a cursor and its number. -/
abbrev CV := (Option Addr × Int) × RV
abbrev CE := CV × Int
/-- The cells of a list of entries. -/
def flat (es : List CE) : List Value := es.flatMap fun e => [.pointer e.1.1.1, .int .i64 e.1.1.2, .slice e.1.2.1 e.1.2.2.1.length e.1.2.2.2, .int .i64 e.2]
theorem flat_nil : flat [] = [] := rfl
theorem flat_cons (x : CE) (es : List CE) : flat (x :: es) = .pointer x.1.1.1 :: .int .i64 x.1.1.2 :: .slice x.1.2.1 x.1.2.2.1.length x.1.2.2.2 :: .int .i64 x.2 :: flat es := by simp [flat]
theorem flat_len (es : List CE) : (flat es).length = es.length * 4 := by
  induction es with
  | nil => rfl
  | cons x es ih => rw [flat_cons]; simp [ih]; omega
theorem flat_append (l r : List CE) : flat (l ++ r) = flat l ++ flat r := by simp [flat]
theorem flat_at {es : List CE} {i : Nat} (h : i < es.length) : (flat es)[i * 4]? = some (.pointer (atE es i).1.1.1) ∧ (flat es)[i * 4 + 1]? = some (.int .i64 (atE es i).1.1.2) ∧ (flat es)[i * 4 + 2]? = some (.slice (atE es i).1.2.1 (atE es i).1.2.2.1.length (atE es i).1.2.2.2) ∧ (flat es)[i * 4 + 3]? = some (.int .i64 (atE es i).2) := by
  induction es generalizing i with
  | nil => simp at h
  | cons x es ih =>
    rw [flat_cons]
    cases i with
    | zero => simp [atE]
    | succ i =>
      have := ih (i := i) (by simpa using h)
      rw [show (i + 1) * 4 = i * 4 + 4 by omega]
      simpa [atE] using this
theorem flat_set {es : List CE} {i : Nat} (x : CE) (h : i < es.length) : (((((flat es).set (i * 4) (.pointer x.1.1.1)).set (i * 4 + 1) (.int .i64 x.1.1.2)).set (i * 4 + 2) (.slice x.1.2.1 x.1.2.2.1.length x.1.2.2.2)).set (i * 4 + 3) (.int .i64 x.2)) = flat (es.set i x) := by
  induction es generalizing i with
  | nil => simp at h
  | cons y es ih =>
    rw [flat_cons]
    cases i with
    | zero => simp [flat_cons]
    | succ i =>
      have := ih (i := i) (by simpa using h)
      rw [show (i + 1) * 4 = i * 4 + 1 + 1 + 1 + 1 by omega]
      simp only [List.set_cons_succ, flat_cons, this]

/-- The row of a cursor can be read, and lies in no block of the heap. -/
def Rd1 (w : World) (g : Nat) (own : Option Nat) (x : RV) : Prop := Row w x.1 x.2.1 ∧ x.2.1.length ≤ x.2.2 ∧ x.2.1.length ≤ 1000000 ∧ ∀ q, x.1 = some q → q.block < w.heap.size ∧ q.block ≠ g ∧ own ≠ some q.block
def Rd (w : World) (g : Nat) (own : Option Nat) (es : List CE) : Prop := ∀ e ∈ es, Rd1 w g own e.1.2
theorem Rd1.keeps {N : Nat → Prop} {w w' : World} {g : Nat} {own : Option Nat} {x : RV} (h : Rd1 w g own x) (hk : Keeps N w w') (hn : ∀ q, x.1 = some q → ¬ N q.block) : Rd1 w' g own x :=
  ⟨h.1.keeps hk hn, h.2.1, h.2.2.1, fun q hq => ⟨Nat.lt_of_lt_of_le (h.2.2.2 q hq).1 hk.size, (h.2.2.2 q hq).2⟩⟩
theorem Rd.keeps {N : Nat → Prop} {w w' : World} {g : Nat} {own : Option Nat} {es : List CE} (h : Rd w g own es) (hk : Keeps N w w') (hn : ∀ e ∈ es, ∀ q, e.1.2.1 = some q → ¬ N q.block) : Rd w' g own es :=
  fun e he => (h e he).keeps hk (hn e he)
theorem Rd.own {w w' : World} {g : Nat} {own : Option Nat} {es : List CE} (h : Rd w g own es) (hk : Keeps (fun b => b = g ∨ own = some b) w w') : Rd w' g own es :=
  h.keeps hk (fun e he q hq hN => by
    have := (h e he).2.2.2 q hq
    rcases hN with e | e
    · exact this.2.1 e
    · exact this.2.2 e)
theorem Rd.sub {w : World} {g : Nat} {own : Option Nat} {es es' : List CE} (h : Rd w g own es) (hs : ∀ e ∈ es', e ∈ es) : Rd w g own es' := fun e he => h e (hs e he)

/-- The heap at block g: its order fv, its list lv with the entries es, p pushed so far. -/
structure HeapAt (w : World) (g : Nat) (fv lv : Value) (es : List CE) (p : Int) : Prop where
  blk : w.heap[g]? = some (.cells #[fv, lv, .int .i64 p] 108 (0, 0))
  row : w.ownsRow 0 111 4 lv es.length (flat es)
  ne : lv.ownBlock ≠ some g
  rd : Rd w g lv.ownBlock es
theorem HeapAt.lt {w : World} {g : Nat} {fv lv : Value} {es : List CE} {p : Int} (h : HeapAt w g fv lv es p) : g < w.heap.size := (Array.getElem?_eq_some_iff.1 h.blk).1
theorem HeapAt.keeps {N : Nat → Prop} {w w' : World} {g : Nat} {fv lv : Value} {es : List CE} {p : Int} (h : HeapAt w g fv lv es p) (hk : Keeps N w w') (hg : ¬ N g) (hl : ∀ b, lv.ownBlock = some b → ¬ N b) (hr : ∀ e ∈ es, ∀ q, e.1.2.1 = some q → ¬ N q.block) : HeapAt w' g fv lv es p :=
  ⟨(hk.block g h.lt hg).trans h.blk, owns_keeps h.row hk hl, h.ne, h.rd.keeps hk hr⟩
theorem HeapAt.below {w w' : World} {g : Nat} {fv lv : Value} {es : List CE} {p : Int} (h : HeapAt w g fv lv es p) (hb : Below w.heap.size w w') : HeapAt w' g fv lv es p :=
  h.keeps (N := fun _ => False) (Keeps.of_below hb) (fun h => h) (fun _ _ h => h) (fun _ _ _ _ h => h)
theorem HeapAt.cell {w : World} {g : Nat} {fv lv : Value} {es : List CE} {p : Int} (h : HeapAt w g fv lv es p) :
    w.cell? ⟨g, 0, none⟩ = some fv ∧ w.cell? ⟨g, 1, none⟩ = some lv ∧ w.cell? ⟨g, 2, none⟩ = some (.int .i64 p) := by
  refine ⟨?_, ?_, ?_⟩ <;> (rw [cell_of_row w g _ _ 108 (0, 0) h.blk]; rfl)
theorem HeapAt.form {w : World} {g : Nat} {fv lv : Value} {es : List CE} {p : Int} (h : HeapAt w g fv lv es p) : ∃ a cap, lv = .slice a es.length cap := by
  rcases h.row.2 with ⟨rfl, h0⟩ | ⟨r, cap, cur, rfl, _⟩
  · rw [h0]; exact ⟨_, _, rfl⟩
  · exact ⟨_, _, rfl⟩
theorem HeapAt.form' {w : World} {g : Nat} {fv lv : Value} {es : List CE} {p : Int} (h : HeapAt w g fv lv es p) (h0 : 0 < es.length) : ∃ r cap, lv = .slice (some ⟨r, 0, none⟩) es.length cap ∧ es.length ≤ cap ∧ cap ≤ maxLen ∧ r ≠ g ∧ r < w.heap.size := by
  rcases h.row.2 with ⟨rfl, h1⟩ | ⟨r, cap, cur, rfl, _, hh, h2, h3, _⟩
  · omega
  · exact ⟨_, _, rfl, h2, h3, fun e => h.ne (by simp [Value.ownBlock, e]), (Array.getElem?_eq_some_iff.1 hh).1⟩

theorem newheap_calls (F : Nat) (w : World) : Calls Try.prog 62 #[.func (.func F) #[] #[]] w fun e w' => e = .returned (.pointer (some ⟨w.heap.size, 0, none⟩)) ∧ w' = w.alloc (.cells #[.func (.func F) #[] #[], .slice none 0 0, .int .i64 0] 108) := by
  go_enter Try.func62, Try.ntmps62
  go_wp2_with fail
  go_ret
  exact ⟨rfl, rfl⟩
abbrev cuV (c : CV) : Value := .agg #[.pointer c.1.1, .int .i64 c.1.2, .slice c.2.1 c.2.2.1.length c.2.2.2]
/-- The order of cursors: by their rows. -/
def ltV (a b : RV) : Bool := decide (cmpS a.2.1 b.2.1 < 0)
set_option maxRecDepth 100000 in
theorem less_calls (a1 b1 : Option Addr) (a2 b2 : Int) (ra rb : Option Addr) (za zb : List Int) (ka kb : Nat) (w : World) (ha : Row w ra za) (hb : Row w rb zb) (hx : za.length ≤ 1000000) (hy : zb.length ≤ 1000000) :
    Calls Try.prog 63 #[.agg #[.pointer a1, .int .i64 a2, .slice ra za.length ka], .agg #[.pointer b1, .int .i64 b2, .slice rb zb.length kb]] w fun e w' => e = .returned (.bool (ltV (ra, za, ka) (rb, zb, kb))) ∧ Below w.heap.size w w' := by
  have A2 := Lib.hid ((ha.alloc (.cells #[.pointer a1, .int .i64 a2, .slice ra za.length ka] 90)).alloc (.cells #[.pointer b1, .int .i64 b2, .slice rb zb.length kb] 90))
  have B2 := Lib.hid ((hb.alloc (.cells #[.pointer a1, .int .i64 a2, .slice ra za.length ka] 90)).alloc (.cells #[.pointer b1, .int .i64 b2, .slice rb zb.length kb] 90))
  clear ha hb
  go_enter Try.func63, Try.ntmps63
  go_wp2_with fail
  refine (compare_calls ra rb ka kb za zb _ A2.out B2.out hx hy).mono ?_
  rintro e w' ⟨rfl, rfl⟩
  go_wp2_with fail
  go_ret
  exact ⟨rfl, ((Below.refl _ _).alloc (Nat.le_refl _) _).alloc (by simp) _⟩
end Go.Proofs.Ytepkmhcchmladaa.Cu

/- before, of cursors. Written by mkhc.py. -/
namespace Go.Proofs.Ytepkmhcchmladaa.Cu
open Go.RowKit
set_option linter.unusedVariables false
set_option linter.unusedSimpArgs false


/-- Is an entry to be taken before another? -/
def ltC (a b : CE) : Bool := ltV a.1.2 b.1.2 || (!ltV b.1.2 a.1.2 && decide (a.2 < b.2))
theorem neq_nil (F : Nat) (w : World) : (binOp BinOp.neq 91 (Value.func (Fn.func F) #[] #[]) Value.nilFunc).run Try.prog w = .ok (.bool true) w := by kernel_rfl
attribute [local go_sem ↓] neq_nil

set_option maxRecDepth 100000 in
set_option maxHeartbeats 4000000 in
theorem before_cur {w : World} {g : Nat} {lv : Value} {es : List CE} {p : Int} (h : HeapAt w g (.func (.func 63) #[] #[]) lv es p) (i j : Nat) (hi : i < es.length) (hj : j < es.length) :
    Calls Try.prog 95 #[.pointer (some ⟨g, 0, none⟩), .int .i64 i, .int .i64 j] w fun e w' => e = .returned (.bool (ltC (atE es i) (atE es j))) ∧ Below w.heap.size w w' := by
  obtain ⟨c0, c1, c2⟩ := h.cell
  obtain ⟨r, cap, rfl, hlc, hcm, hrg, hrl⟩ := h.form' (by omega)
  have hgl := h.lt
  have RI := Lib.hid (h.rd _ (atE_mem hi))
  have RJ := Lib.hid (h.rd _ (atE_mem hj))
  obtain ⟨fi1, fi2, fi3, fi4⟩ := flat_at hi
  obtain ⟨fj1, fj2, fj3, fj4⟩ := flat_at hj
  have di1 := h.row.cellAt (i * 4) (by omega)
  have di2 := h.row.cellAt (i * 4 + 1) (by omega)
  have di3 := h.row.cellAt (i * 4 + 2) (by omega)
  have di4 := h.row.cellAt (i * 4 + 3) (by omega)
  have dj1 := h.row.cellAt (j * 4) (by omega)
  have dj2 := h.row.cellAt (j * 4 + 1) (by omega)
  have dj3 := h.row.cellAt (j * 4 + 2) (by omega)
  have dj4 := h.row.cellAt (j * 4 + 3) (by omega)
  rw [fi1] at di1
  rw [fi2] at di2
  rw [fi3] at di3
  rw [fi4] at di4
  rw [fj1] at dj1
  rw [fj2] at dj2
  rw [fj3] at dj3
  rw [fj4] at dj4
  generalize atE es i = x at *
  generalize atE es j = y at *
  obtain ⟨⟨⟨x1, x2⟩, ⟨x3, xz, x4⟩⟩, x5⟩ := x
  obtain ⟨⟨⟨y1, y2⟩, ⟨y3, yz, y4⟩⟩, y5⟩ := y
  generalize es.length = n at *
  unfold maxLen at hcm
  clear fi1 fi2 fi3 fi4 fj1 fj2 fj3 fj4 h
  have bi : (0 : Int) ≤ (i : Int) := by omega
  have bi' : (i : Int) < (n : Int) := by omega
  have bj : (0 : Int) ≤ (j : Int) := by omega
  have bj' : (j : Int) < (n : Int) := by omega
  dsimp only at di1 di2 di3 di4 dj1 dj2 dj3 dj4 RI RJ
  obtain ⟨b1, hb1⟩ : ∃ b, ltV (x3, xz, x4) (y3, yz, y4) = b := ⟨_, rfl⟩
  obtain ⟨b2, hb2⟩ : ∃ b, ltV (y3, yz, y4) (x3, xz, x4) = b := ⟨_, rfl⟩
  have l1 : ∀ W, Below w.heap.size w W → Calls Try.prog 63 #[.agg #[.pointer x1, .int .i64 x2, .slice x3 xz.length x4], .agg #[.pointer y1, .int .i64 y2, .slice y3 yz.length y4]] W fun e w' => e = .returned (.bool b1) ∧ Below W.heap.size W w' := fun W hW => by rw [← hb1]; exact less_calls _ _ _ _ _ _ _ _ _ _ W (RI.out.1.below hW) (RJ.out.1.below hW) RI.out.2.2.1 RJ.out.2.2.1
  have l2 : ∀ W, Below w.heap.size w W → Calls Try.prog 63 #[.agg #[.pointer y1, .int .i64 y2, .slice y3 yz.length y4], .agg #[.pointer x1, .int .i64 x2, .slice x3 xz.length x4]] W fun e w' => e = .returned (.bool b2) ∧ Below W.heap.size W w' := fun W hW => by rw [← hb2]; exact less_calls _ _ _ _ _ _ _ _ _ _ W (RJ.out.1.below hW) (RI.out.1.below hW) RJ.out.2.2.1 RI.out.2.2.1
  have EQ : Hid (ltC (((x1, x2), (x3, xz, x4)), x5) (((y1, y2), (y3, yz, y4)), y5) = (b1 || (!b2 && decide (x5 < y5)))) := Lib.hid (by unfold ltC; simp only; rw [hb1, hb2])
  clear hb1 hb2 RI RJ
  go_enter Try.func95, Try.ntmps95
  go_wp2_with fail
  go_region
  · generalize hW : World.drew _ = W
    have HW := Lib.hid hW
    clear hW
    have k0 : W.cell? ⟨g, 0, none⟩ = some (.func (.func 63) #[] #[]) := by rw [← HW.out]; go_simp
    have k1 : W.cell? ⟨w.heap.size, 0, none⟩ = some (.pointer x1) := by rw [← HW.out]; go_simp
    have k2 : W.cell? ⟨w.heap.size, 1, none⟩ = some (.int .i64 x2) := by rw [← HW.out]; go_simp
    have k3 : W.cell? ⟨w.heap.size, 2, none⟩ = some (.slice x3 xz.length x4) := by rw [← HW.out]; go_simp
    have k4 : W.cell? ⟨w.heap.size, 3, none⟩ = some (.int .i64 x5) := by rw [← HW.out]; go_simp
    have k5 : W.cell? ⟨w.heap.size + 1, 0, none⟩ = some (.pointer y1) := by rw [← HW.out]; go_simp
    have k6 : W.cell? ⟨w.heap.size + 1, 1, none⟩ = some (.int .i64 y2) := by rw [← HW.out]; go_simp
    have k7 : W.cell? ⟨w.heap.size + 1, 2, none⟩ = some (.slice y3 yz.length y4) := by rw [← HW.out]; go_simp
    have k8 : W.cell? ⟨w.heap.size + 1, 3, none⟩ = some (.int .i64 y5) := by rw [← HW.out]; go_simp
    have HSZ : Hid (W.heap.size = w.heap.size + 2) := Lib.hid (by rw [← HW.out]; simp)
    have B : Below w.heap.size w W := by rw [← HW.out]; exact below_drewN (((Below.refl _ _).alloc (Nat.le_refl _) _).alloc (by simp) _) 1
    have B' := Lib.hid B
    clear B HW c0 c1 c2 di1 di2 di3 di4 dj1 dj2 dj3 dj4
    cases b1
    · go_wp2_with fail
      go_still_tail 8, (by kernel_rfl)
      change wpList _ _ _ _ _ W.drew
      have B2 : Hid (Below w.heap.size w W.drew) := Lib.hid (below_drewN B'.out 1)
      have m0 : W.drew.cell? _ = _ := k0
      have m1 : W.drew.cell? _ = _ := k1
      have m2 : W.drew.cell? _ = _ := k2
      have m3 : W.drew.cell? _ = _ := k3
      have m4 : W.drew.cell? _ = _ := k4
      have m5 : W.drew.cell? _ = _ := k5
      have m6 : W.drew.cell? _ = _ := k6
      have m7 : W.drew.cell? _ = _ := k7
      have m8 : W.drew.cell? _ = _ := k8
      have HS2 : Hid (W.drew.heap.size = w.heap.size + 2) := HSZ
      clear k0 k1 k2 k3 k4 k5 k6 k7 k8
      generalize W.drew = V at *
      go_wp2_with fail
      refine (l1 _ B2.out).mono ?_
      rintro e V2 ⟨rfl, hb⟩
      have p0 := (hb.cell (p := ⟨g, 0, none⟩) (by rw [HS2.out]; show g < _; omega)).trans m0
      have p1 := (hb.cell (p := ⟨w.heap.size, 0, none⟩) (by rw [HS2.out]; show w.heap.size < _; omega)).trans m1
      have p2 := (hb.cell (p := ⟨w.heap.size, 1, none⟩) (by rw [HS2.out]; show w.heap.size < _; omega)).trans m2
      have p3 := (hb.cell (p := ⟨w.heap.size, 2, none⟩) (by rw [HS2.out]; show w.heap.size < _; omega)).trans m3
      have p4 := (hb.cell (p := ⟨w.heap.size, 3, none⟩) (by rw [HS2.out]; show w.heap.size < _; omega)).trans m4
      have p5 := (hb.cell (p := ⟨w.heap.size + 1, 0, none⟩) (by rw [HS2.out]; show w.heap.size + 1 < _; omega)).trans m5
      have p6 := (hb.cell (p := ⟨w.heap.size + 1, 1, none⟩) (by rw [HS2.out]; show w.heap.size + 1 < _; omega)).trans m6
      have p7 := (hb.cell (p := ⟨w.heap.size + 1, 2, none⟩) (by rw [HS2.out]; show w.heap.size + 1 < _; omega)).trans m7
      have p8 := (hb.cell (p := ⟨w.heap.size + 1, 3, none⟩) (by rw [HS2.out]; show w.heap.size + 1 < _; omega)).trans m8
      have B3 : Hid (Below w.heap.size w V2) := Lib.hid (B2.out.trans (hb.mono (by rw [HS2.out]; omega)))
      have HS3 : Hid (w.heap.size + 2 ≤ V2.heap.size) := Lib.hid (by have := hb.size; rw [HS2.out] at this; exact this)
      clear hb m0 m1 m2 m3 m4 m5 m6 m7 m8
      go_wp2_with fail
      go_still_tail 8, (by kernel_rfl)
      change wpList _ _ _ _ _ V2.drew
      have B4 : Hid (Below w.heap.size w V2.drew) := Lib.hid (below_drewN B3.out 1)
      have m0 : V2.drew.cell? _ = _ := p0
      have m1 : V2.drew.cell? _ = _ := p1
      have m2 : V2.drew.cell? _ = _ := p2
      have m3 : V2.drew.cell? _ = _ := p3
      have m4 : V2.drew.cell? _ = _ := p4
      have m5 : V2.drew.cell? _ = _ := p5
      have m6 : V2.drew.cell? _ = _ := p6
      have m7 : V2.drew.cell? _ = _ := p7
      have m8 : V2.drew.cell? _ = _ := p8
      have HS4 : Hid (w.heap.size + 2 ≤ V2.drew.heap.size) := HS3
      clear p0 p1 p2 p3 p4 p5 p6 p7 p8
      generalize V2.drew = V at *
      go_wp2_with fail
      refine (l2 _ B4.out).mono ?_
      rintro e V3 ⟨rfl, hb⟩
      have p4 := (hb.cell (p := ⟨w.heap.size, 3, none⟩) (by have := HS4.out; show w.heap.size < _; omega)).trans m4
      have p8 := (hb.cell (p := ⟨w.heap.size + 1, 3, none⟩) (by have := HS4.out; show w.heap.size + 1 < _; omega)).trans m8
      have B5 : Hid (Below w.heap.size w V3) := Lib.hid (B4.out.trans (hb.mono (by have := HS4.out; omega)))
      clear hb m0 m1 m2 m3 m4 m5 m6 m7 m8
      cases b2
      · go_wp2_with fail
        go_ret
        exact ⟨by rw [EQ.out]; rfl, B5.out⟩
      · go_wp2_with fail
        go_ret
        exact ⟨by rw [EQ.out]; rfl, B5.out⟩
    · go_wp2_with fail
      go_still_tail 8, (by kernel_rfl)
      change wpList _ _ _ _ _ W.drew
      have B2 : Hid (Below w.heap.size w W.drew) := Lib.hid (below_drewN B'.out 1)
      have HS2 : Hid (W.drew.heap.size = w.heap.size + 2) := HSZ
      clear k0 k1 k2 k3 k4 k5 k6 k7 k8
      generalize W.drew = V at *
      go_wp2_with fail
      refine (l1 _ B2.out).mono ?_
      rintro e V2 ⟨rfl, hb⟩
      have B3 : Hid (Below w.heap.size w V2) := Lib.hid (B2.out.trans (hb.mono (by rw [HS2.out]; omega)))
      clear hb
      go_wp2_with fail
      go_ret
      exact ⟨by rw [EQ.out]; rfl, B3.out⟩
  · generalize hW : World.drew _ = W
    have HW := Lib.hid hW
    clear hW
    have k0 : W.cell? ⟨g, 0, none⟩ = some (.func (.func 63) #[] #[]) := by rw [← HW.out]; go_simp
    have k1 : W.cell? ⟨w.heap.size + 1, 0, none⟩ = some (.pointer x1) := by rw [← HW.out]; go_simp
    have k2 : W.cell? ⟨w.heap.size + 1, 1, none⟩ = some (.int .i64 x2) := by rw [← HW.out]; go_simp
    have k3 : W.cell? ⟨w.heap.size + 1, 2, none⟩ = some (.slice x3 xz.length x4) := by rw [← HW.out]; go_simp
    have k4 : W.cell? ⟨w.heap.size + 1, 3, none⟩ = some (.int .i64 x5) := by rw [← HW.out]; go_simp
    have k5 : W.cell? ⟨w.heap.size, 0, none⟩ = some (.pointer y1) := by rw [← HW.out]; go_simp
    have k6 : W.cell? ⟨w.heap.size, 1, none⟩ = some (.int .i64 y2) := by rw [← HW.out]; go_simp
    have k7 : W.cell? ⟨w.heap.size, 2, none⟩ = some (.slice y3 yz.length y4) := by rw [← HW.out]; go_simp
    have k8 : W.cell? ⟨w.heap.size, 3, none⟩ = some (.int .i64 y5) := by rw [← HW.out]; go_simp
    have HSZ : Hid (W.heap.size = w.heap.size + 2) := Lib.hid (by rw [← HW.out]; simp)
    have B : Below w.heap.size w W := by rw [← HW.out]; exact below_drewN (((Below.refl _ _).alloc (Nat.le_refl _) _).alloc (by simp) _) 1
    have B' := Lib.hid B
    clear B HW c0 c1 c2 di1 di2 di3 di4 dj1 dj2 dj3 dj4
    cases b1
    · go_wp2_with fail
      go_still_tail 8, (by kernel_rfl)
      change wpList _ _ _ _ _ W.drew
      have B2 : Hid (Below w.heap.size w W.drew) := Lib.hid (below_drewN B'.out 1)
      have m0 : W.drew.cell? _ = _ := k0
      have m1 : W.drew.cell? _ = _ := k1
      have m2 : W.drew.cell? _ = _ := k2
      have m3 : W.drew.cell? _ = _ := k3
      have m4 : W.drew.cell? _ = _ := k4
      have m5 : W.drew.cell? _ = _ := k5
      have m6 : W.drew.cell? _ = _ := k6
      have m7 : W.drew.cell? _ = _ := k7
      have m8 : W.drew.cell? _ = _ := k8
      have HS2 : Hid (W.drew.heap.size = w.heap.size + 2) := HSZ
      clear k0 k1 k2 k3 k4 k5 k6 k7 k8
      generalize W.drew = V at *
      go_wp2_with fail
      refine (l1 _ B2.out).mono ?_
      rintro e V2 ⟨rfl, hb⟩
      have p0 := (hb.cell (p := ⟨g, 0, none⟩) (by rw [HS2.out]; show g < _; omega)).trans m0
      have p1 := (hb.cell (p := ⟨w.heap.size + 1, 0, none⟩) (by rw [HS2.out]; show w.heap.size + 1 < _; omega)).trans m1
      have p2 := (hb.cell (p := ⟨w.heap.size + 1, 1, none⟩) (by rw [HS2.out]; show w.heap.size + 1 < _; omega)).trans m2
      have p3 := (hb.cell (p := ⟨w.heap.size + 1, 2, none⟩) (by rw [HS2.out]; show w.heap.size + 1 < _; omega)).trans m3
      have p4 := (hb.cell (p := ⟨w.heap.size + 1, 3, none⟩) (by rw [HS2.out]; show w.heap.size + 1 < _; omega)).trans m4
      have p5 := (hb.cell (p := ⟨w.heap.size, 0, none⟩) (by rw [HS2.out]; show w.heap.size < _; omega)).trans m5
      have p6 := (hb.cell (p := ⟨w.heap.size, 1, none⟩) (by rw [HS2.out]; show w.heap.size < _; omega)).trans m6
      have p7 := (hb.cell (p := ⟨w.heap.size, 2, none⟩) (by rw [HS2.out]; show w.heap.size < _; omega)).trans m7
      have p8 := (hb.cell (p := ⟨w.heap.size, 3, none⟩) (by rw [HS2.out]; show w.heap.size < _; omega)).trans m8
      have B3 : Hid (Below w.heap.size w V2) := Lib.hid (B2.out.trans (hb.mono (by rw [HS2.out]; omega)))
      have HS3 : Hid (w.heap.size + 2 ≤ V2.heap.size) := Lib.hid (by have := hb.size; rw [HS2.out] at this; exact this)
      clear hb m0 m1 m2 m3 m4 m5 m6 m7 m8
      go_wp2_with fail
      go_still_tail 8, (by kernel_rfl)
      change wpList _ _ _ _ _ V2.drew
      have B4 : Hid (Below w.heap.size w V2.drew) := Lib.hid (below_drewN B3.out 1)
      have m0 : V2.drew.cell? _ = _ := p0
      have m1 : V2.drew.cell? _ = _ := p1
      have m2 : V2.drew.cell? _ = _ := p2
      have m3 : V2.drew.cell? _ = _ := p3
      have m4 : V2.drew.cell? _ = _ := p4
      have m5 : V2.drew.cell? _ = _ := p5
      have m6 : V2.drew.cell? _ = _ := p6
      have m7 : V2.drew.cell? _ = _ := p7
      have m8 : V2.drew.cell? _ = _ := p8
      have HS4 : Hid (w.heap.size + 2 ≤ V2.drew.heap.size) := HS3
      clear p0 p1 p2 p3 p4 p5 p6 p7 p8
      generalize V2.drew = V at *
      go_wp2_with fail
      refine (l2 _ B4.out).mono ?_
      rintro e V3 ⟨rfl, hb⟩
      have p4 := (hb.cell (p := ⟨w.heap.size + 1, 3, none⟩) (by have := HS4.out; show w.heap.size + 1 < _; omega)).trans m4
      have p8 := (hb.cell (p := ⟨w.heap.size, 3, none⟩) (by have := HS4.out; show w.heap.size < _; omega)).trans m8
      have B5 : Hid (Below w.heap.size w V3) := Lib.hid (B4.out.trans (hb.mono (by have := HS4.out; omega)))
      clear hb m0 m1 m2 m3 m4 m5 m6 m7 m8
      cases b2
      · go_wp2_with fail
        go_ret
        exact ⟨by rw [EQ.out]; rfl, B5.out⟩
      · go_wp2_with fail
        go_ret
        exact ⟨by rw [EQ.out]; rfl, B5.out⟩
    · go_wp2_with fail
      go_still_tail 8, (by kernel_rfl)
      change wpList _ _ _ _ _ W.drew
      have B2 : Hid (Below w.heap.size w W.drew) := Lib.hid (below_drewN B'.out 1)
      have HS2 : Hid (W.drew.heap.size = w.heap.size + 2) := HSZ
      clear k0 k1 k2 k3 k4 k5 k6 k7 k8
      generalize W.drew = V at *
      go_wp2_with fail
      refine (l1 _ B2.out).mono ?_
      rintro e V2 ⟨rfl, hb⟩
      have B3 : Hid (Below w.heap.size w V2) := Lib.hid (B2.out.trans (hb.mono (by rw [HS2.out]; omega)))
      clear hb
      go_wp2_with fail
      go_ret
      exact ⟨by rw [EQ.out]; rfl, B3.out⟩
end Go.Proofs.Ytepkmhcchmladaa.Cu

/- Contract of up, of cursors. Written by mkhc.py. -/
namespace Go.Proofs.Ytepkmhcchmladaa.Cu
open Go.RowKit
set_option linter.unusedVariables false
set_option linter.unusedSimpArgs false

/-- What before answers at a heap with the order fv. -/
def BeforeIs (fv : Value) (lt : CE → CE → Bool) : Prop :=
  ∀ (w : World) (g : Nat) (lv : Value) (es : List CE) (p : Int), HeapAt w g fv lv es p → ∀ i j : Nat, i < es.length → j < es.length →
    Calls Try.prog 95 #[.pointer (some ⟨g, 0, none⟩), .int .i64 i, .int .i64 j] w fun e w' => e = .returned (.bool (lt (atE es i) (atE es j))) ∧ Below w.heap.size w w'
theorem swp_mem {es : List CE} {i j : Nat} (hi : i < es.length) (hj : j < es.length) : ∀ e ∈ swpL es i j, e ∈ es := fun e he => (perm_swp hi hj).subset he
/-- Behind an exchange of two entries. -/
theorem heap_swap {w : World} {g r cap : Nat} {fv : Value} {es : List CE} {p : Int} (h : HeapAt w g fv (.slice (some ⟨r, 0, none⟩) es.length cap) es p) (i j : Nat) (hi : i < es.length) (hj : j < es.length) :
    HeapAt ((((((((w.setCell ⟨r, i * 4, none⟩ (.pointer (atE es j).1.1.1)).setCell ⟨r, i * 4 + 1, none⟩ (.int .i64 (atE es j).1.1.2)).setCell ⟨r, i * 4 + 2, none⟩ (.slice (atE es j).1.2.1 (atE es j).1.2.2.1.length (atE es j).1.2.2.2)).setCell ⟨r, i * 4 + 3, none⟩ (.int .i64 (atE es j).2)).setCell ⟨r, j * 4, none⟩ (.pointer (atE es i).1.1.1)).setCell ⟨r, j * 4 + 1, none⟩ (.int .i64 (atE es i).1.1.2)).setCell ⟨r, j * 4 + 2, none⟩ (.slice (atE es i).1.2.1 (atE es i).1.2.2.1.length (atE es i).1.2.2.2)).setCell ⟨r, j * 4 + 3, none⟩ (.int .i64 (atE es i).2)) g fv (.slice (some ⟨r, 0, none⟩) es.length cap) (swpL es i j) p := by
  have hgr : g ≠ r := fun e => h.ne (by simp [Value.ownBlock, e])
  have h0 := h.row
  have h1 := (h0.stored (i * 4) (.pointer (atE es j).1.1.1)).1
  have h2 := (h1.stored (i * 4 + 1) (.int .i64 (atE es j).1.1.2)).1
  have h3 := (h2.stored (i * 4 + 2) (.slice (atE es j).1.2.1 (atE es j).1.2.2.1.length (atE es j).1.2.2.2)).1
  have h4 := (h3.stored (i * 4 + 3) (.int .i64 (atE es j).2)).1
  have h5 := (h4.stored (j * 4) (.pointer (atE es i).1.1.1)).1
  have h6 := (h5.stored (j * 4 + 1) (.int .i64 (atE es i).1.1.2)).1
  have h7 := (h6.stored (j * 4 + 2) (.slice (atE es i).1.2.1 (atE es i).1.2.2.1.length (atE es i).1.2.2.2)).1
  have h8 := (h7.stored (j * 4 + 3) (.int .i64 (atE es i).2)).1
  rw [flat_set (atE es j) hi, flat_set (atE es i) (by simpa using hj)] at h8
  have K8 := (((((((((Keeps.refl (fun b => b = g ∨ (Value.slice (some ⟨r, 0, none⟩) es.length cap).ownBlock = some b) w).setCell (p := ⟨r, i * 4, none⟩) (.inr rfl) (.pointer (atE es j).1.1.1)).setCell (p := ⟨r, i * 4 + 1, none⟩) (.inr rfl) (.int .i64 (atE es j).1.1.2)).setCell (p := ⟨r, i * 4 + 2, none⟩) (.inr rfl) (.slice (atE es j).1.2.1 (atE es j).1.2.2.1.length (atE es j).1.2.2.2)).setCell (p := ⟨r, i * 4 + 3, none⟩) (.inr rfl) (.int .i64 (atE es j).2)).setCell (p := ⟨r, j * 4, none⟩) (.inr rfl) (.pointer (atE es i).1.1.1)).setCell (p := ⟨r, j * 4 + 1, none⟩) (.inr rfl) (.int .i64 (atE es i).1.1.2)).setCell (p := ⟨r, j * 4 + 2, none⟩) (.inr rfl) (.slice (atE es i).1.2.1 (atE es i).1.2.2.1.length (atE es i).1.2.2.2)).setCell (p := ⟨r, j * 4 + 3, none⟩) (.inr rfl) (.int .i64 (atE es i).2))
  refine ⟨?_, by rw [swpL_len]; exact h8, h.ne, (h.rd.own K8).sub (swp_mem hi hj)⟩
  rw [Below.heap_setCell _ _ _ g hgr, Below.heap_setCell _ _ _ g hgr, Below.heap_setCell _ _ _ g hgr, Below.heap_setCell _ _ _ g hgr, Below.heap_setCell _ _ _ g hgr, Below.heap_setCell _ _ _ g hgr, Below.heap_setCell _ _ _ g hgr, Below.heap_setCell _ _ _ g hgr]
  exact h.blk
theorem HeapAt.drewN {w : World} {g : Nat} {fv lv : Value} {es : List CE} {p : Int} (h : HeapAt w g fv lv es p) (n : Nat) : HeapAt (w.drewN n) g fv lv es p := ⟨h.blk, h.row, h.ne, h.rd⟩

/-- What a move leaves: a heap with the same entries; only the list's block may have turned. -/
def Moved (lt : CE → CE → Bool) (w : World) (g : Nat) (fv lv : Value) (es : List CE) (p : Int) (e : Ending) (w' : World) : Prop :=
  e = .returned (.tuple #[]) ∧ ∃ es', HeapAt w' g fv lv es' p ∧ IsHeap lt es' ∧ es'.Perm es ∧ Keeps (fun b => lv.ownBlock = some b) w w'

set_option maxRecDepth 100000 in
set_option maxHeartbeats 4000000 in
theorem up_calls {fv : Value} {lt : CE → CE → Bool} (O : Ord lt) (B : BeforeIs fv lt) {w : World} {g : Nat} {lv : Value} {es : List CE} {p : Int} (h : HeapAt w g fv lv es p) (i : Nat) (hi : i < es.length) (hup : UpOK lt es i) (hlen : es.length ≤ 1000000) :
    Calls Try.prog 94 #[.pointer (some ⟨g, 0, none⟩), .int .i64 i] w (Moved lt w g fv lv es p) := by
  obtain ⟨r, cap, hlv, hlc, hcm, hrg, hrl⟩ := h.form' (by omega)
  unfold maxLen at hcm
  obtain ⟨n, hn⟩ : ∃ n, es.length = n := ⟨_, rfl⟩
  rw [hn] at hlv hlc hlen hi
  subst hlv
  have HN := Lib.hid hn
  clear hn
  have H0 := Lib.hid (show HeapAt w g fv (.slice (some ⟨r, 0, none⟩) n cap) es p ∧ UpOK lt es i from ⟨h, hup⟩)
  clear h hup
  go_enter Try.func94, Try.ntmps94
  go_wp2_with fail
  go_loopw [1] (fun s wr => ∃ (k : Nat) (fs : List CE), k < n ∧ s = .int .i64 k ∧ Hid (fs.length = n) ∧ Hid (HeapAt wr g fv (.slice (some ⟨r, 0, none⟩) n cap) fs p) ∧ Hid (UpOK lt fs k) ∧ Hid (fs.Perm es) ∧ Hid (Keeps (fun b => r = b) w wr))
    (fun s _ => (intOf s).toNat)
  case atStart => exact ⟨i, es, hi, rfl, HN, Lib.hid H0.out.1, Lib.hid H0.out.2, Lib.hid (List.Perm.refl _), Lib.hid (Keeps.refl _ _)⟩
  case round =>
    obtain ⟨k, fs, hk, rfl, HL, HH, HU, HP, HK⟩ := hrel
    by_cases hk0 : k = 0
    · subst hk0
      go_wp2_with fail
      go_end0
      exact ⟨rfl, fs, HH.out, up_stop0 HU.out, HP.out, HK.out.mono (fun b _ e => by simp [Value.ownBlock, e])⟩
    · obtain ⟨q, hq⟩ : ∃ q, (k - 1) / 2 = q := ⟨_, rfl⟩
      have hqk : q < k := by omega
      have hqI : ((k : Int) - 1) / 2 = (q : Int) := by omega
      have HQ := Lib.hid hq
      have HQI := Lib.hid hqI
      have hk1 : (0 : Int) < (k : Int) := by omega
      have hk2 : (1 : Int) ≤ (k : Int) := by omega
      clear hq hqI
      obtain ⟨b, hb⟩ : ∃ b, lt (atE fs k) (atE fs q) = b := ⟨_, rfl⟩
      have HB := Lib.hid hb
      have cb := fun (q' : Int) (e : q' = (q : Int)) => (show Calls Try.prog 95 #[.pointer (some ⟨g, 0, none⟩), .int .i64 k, .int .i64 q'] wr fun e w' => e = .returned (.bool b) ∧ Below wr.heap.size wr w' from by
        rw [e, ← hb]; exact B wr g _ fs p HH.out k q (by rw [HL.out]; exact hk) (by rw [HL.out]; omega))
      clear hb
      cases b
      · go_wp2_with (first | (go_at_call 95; refine (cb _ HQI.out).mono ?_; rintro e w' ⟨rfl, hbel⟩; have BE := Lib.hid hbel; clear hbel))
        go_end0
        exact ⟨rfl, fs, HH.out.below BE.out, up_stop HU.out (by rw [HQ.out]; exact HB.out), HP.out, (HK.out.trans (Keeps.of_below BE.out)).mono (fun b _ e => by simp [Value.ownBlock, e])⟩
      · go_wp2_with (first | (go_at_call 95; refine (cb _ HQI.out).mono ?_; rintro e w' ⟨rfl, hbel⟩; have BE := Lib.hid hbel; clear hbel))
        rw [HQI.out]
        have H1 := HH.out.below BE.out
        have hk' : k < fs.length := by rw [HL.out]; exact hk
        have hq' : q < fs.length := by rw [HL.out]; omega
        obtain ⟨c0, c1, c2⟩ := H1.cell
        have H2 := H1
        rw [← HL.out] at H2
        obtain ⟨fk1, fk2, fk3, fk4⟩ := flat_at hk'
        obtain ⟨fq1, fq2, fq3, fq4⟩ := flat_at hq'
        have dk1 := H2.row.cellAt (k * 4) (by omega)
        have dk2 := H2.row.cellAt (k * 4 + 1) (by omega)
        have dk3 := H2.row.cellAt (k * 4 + 2) (by omega)
        have dk4 := H2.row.cellAt (k * 4 + 3) (by omega)
        have dq1 := H2.row.cellAt (q * 4) (by omega)
        have dq2 := H2.row.cellAt (q * 4 + 1) (by omega)
        have dq3 := H2.row.cellAt (q * 4 + 2) (by omega)
        have dq4 := H2.row.cellAt (q * 4 + 3) (by omega)
        rw [fk1] at dk1
        rw [fk2] at dk2
        rw [fk3] at dk3
        rw [fk4] at dk4
        rw [fq1] at dq1
        rw [fq2] at dq2
        rw [fq3] at dq3
        rw [fq4] at dq4
        have zk1 := H2.row.frozenAt (k * 4)
        have zk2 := H2.row.frozenAt (k * 4 + 1)
        have zk3 := H2.row.frozenAt (k * 4 + 2)
        have zk4 := H2.row.frozenAt (k * 4 + 3)
        have zq1 := H2.row.frozenAt (q * 4)
        have zq2 := H2.row.frozenAt (q * 4 + 1)
        have zq3 := H2.row.frozenAt (q * 4 + 2)
        have zq4 := H2.row.frozenAt (q * 4 + 3)
        have SW := Lib.hid (heap_swap H2 k q hk' hq')
        clear H1 H2 fk1 fk2 fk3 fk4 fq1 fq2 fq3 fq4 c0 c2
        obtain ⟨x, hx⟩ : ∃ x, atE fs k = x := ⟨_, rfl⟩
        rw [hx] at dk1 dk2 dk3 dk4
        obtain ⟨y, hy⟩ : ∃ y, atE fs q = y := ⟨_, rfl⟩
        rw [hy] at dq1 dq2 dq3 dq4
        rw [hx, hy] at SW
        clear hx hy hk' hq'
        obtain ⟨⟨⟨x1, x2⟩, ⟨x3, xz, x4⟩⟩, x5⟩ := x
        obtain ⟨⟨⟨y1, y2⟩, ⟨y3, yz, y4⟩⟩, y5⟩ := y
        dsimp only at SW dk1 dk2 dk3 dk4 dq1 dq2 dq3 dq4
        have bk : (k : Int) < (n : Int) := by omega
        have bk0 : (0 : Int) ≤ (k : Int) := by omega
        have bq : (q : Int) < (n : Int) := by omega
        have bq0 : (0 : Int) ≤ (q : Int) := by omega
        have n1 : ¬ k = q := by omega
        have n2 : ¬ q = k := by omega
        have n3 : ¬ k * 4 = q * 4 + 1 := by omega
        have n4 : ¬ q * 4 = k * 4 + 1 := by omega
        have n5 : ¬ k * 4 = q * 4 + 2 := by omega
        have n6 : ¬ q * 4 = k * 4 + 2 := by omega
        have n7 : ¬ k * 4 = q * 4 + 3 := by omega
        have n8 : ¬ q * 4 = k * 4 + 3 := by omega
        have n9 : ¬ k * 4 + 1 = q * 4 := by omega
        have n10 : ¬ q * 4 + 1 = k * 4 := by omega
        have n11 : ¬ k * 4 + 1 = q * 4 + 2 := by omega
        have n12 : ¬ q * 4 + 1 = k * 4 + 2 := by omega
        have n13 : ¬ k * 4 + 1 = q * 4 + 3 := by omega
        have n14 : ¬ q * 4 + 1 = k * 4 + 3 := by omega
        have n15 : ¬ k * 4 + 2 = q * 4 := by omega
        have n16 : ¬ q * 4 + 2 = k * 4 := by omega
        have n17 : ¬ k * 4 + 2 = q * 4 + 1 := by omega
        have n18 : ¬ q * 4 + 2 = k * 4 + 1 := by omega
        have n19 : ¬ k * 4 + 2 = q * 4 + 3 := by omega
        have n20 : ¬ q * 4 + 2 = k * 4 + 3 := by omega
        have n21 : ¬ k * 4 + 3 = q * 4 := by omega
        have n22 : ¬ q * 4 + 3 = k * 4 := by omega
        have n23 : ¬ k * 4 + 3 = q * 4 + 1 := by omega
        have n24 : ¬ q * 4 + 3 = k * 4 + 1 := by omega
        have n25 : ¬ k * 4 + 3 = q * 4 + 2 := by omega
        have n26 : ¬ q * 4 + 3 = k * 4 + 2 := by omega
        go_region
        have KS := Lib.hid (((((((((HK.out.trans (Keeps.of_below BE.out)).setCell (p := ⟨r, k * 4, none⟩) rfl (.pointer y1)).setCell (p := ⟨r, k * 4 + 1, none⟩) rfl (.int .i64 y2)).setCell (p := ⟨r, k * 4 + 2, none⟩) rfl (.slice y3 yz.length y4)).setCell (p := ⟨r, k * 4 + 3, none⟩) rfl (.int .i64 y5)).setCell (p := ⟨r, q * 4, none⟩) rfl (.pointer x1)).setCell (p := ⟨r, q * 4 + 1, none⟩) rfl (.int .i64 x2)).setCell (p := ⟨r, q * 4 + 2, none⟩) rfl (.slice x3 xz.length x4)).setCell (p := ⟨r, q * 4 + 3, none⟩) rfl (.int .i64 x5))
        clear dk1 dk2 dk3 dk4 dq1 dq2 dq3 dq4 zk1 zk2 zk3 zk4 zq1 zq2 zq3 zq4 c1
        generalize World.setCell (World.setCell _ _ _) _ _ = W at *
        go_wp2_with fail
        go_roundw
        case rel =>
          refine ⟨q, swpL fs k q, by omega, rfl, Lib.hid (by rw [swpL_len]; exact HL.out), Lib.hid ?_, Lib.hid ?_, Lib.hid ?_, Lib.hid ?_⟩
          · have := SW.out.drewN 1; rw [HL.out] at this; exact this
          · rw [← HQ.out]; exact up_step O HU.out (by omega) (by rw [HL.out]; exact hk) (by rw [HQ.out]; exact HB.out)
          · exact (perm_swp (by rw [HL.out]; exact hk) (by rw [HL.out]; omega)).trans HP.out
          · exact ⟨KS.out.os, KS.out.tape, KS.out.output, KS.out.size, KS.out.block⟩
        case measure => simp [intOf]; omega
end Go.Proofs.Ytepkmhcchmladaa.Cu

/- Contract of down, of cursors. Written by mkhc.py. -/
namespace Go.Proofs.Ytepkmhcchmladaa.Cu
open Go.RowKit
set_option linter.unusedVariables false
set_option linter.unusedSimpArgs false

/-- f is the least of i and its kids below c. -/
def LeastOf (lt : CE → CE → Bool) (fs : List CE) (i c f : Nat) : Prop :=
  (f = i ∨ (2 * i + 1 ≤ f ∧ f < c ∧ lt (atE fs f) (atE fs i) = true)) ∧ f < fs.length ∧ ∀ j, 2 * i + 1 ≤ j → j < c → j < fs.length → lt (atE fs j) (atE fs f) = false
theorem least_start {lt : CE → CE → Bool} {fs : List CE} {i : Nat} (h : i < fs.length) : LeastOf lt fs i (2 * i + 1) i := ⟨.inl rfl, h, fun j h1 h2 => by omega⟩
theorem least_yes {lt : CE → CE → Bool} (O : Ord lt) {fs : List CE} {i c f : Nat} (h : LeastOf lt fs i c f) (hc : 2 * i + 1 ≤ c) (hl : c < fs.length) (hb : lt (atE fs c) (atE fs f) = true) : LeastOf lt fs i (c + 1) c := by
  refine ⟨.inr ⟨hc, by omega, ?_⟩, hl, fun j h1 h2 h3 => ?_⟩
  · rcases h.1 with e | ⟨_, _, h'⟩
    · rw [e] at hb; exact hb
    · exact O.trans _ _ _ hb h'
  · by_cases e : j = c
    · rw [e]; exact O.irrefl _
    · have h4 := h.2.2 j h1 (by omega) h3
      cases h5 : lt (atE fs j) (atE fs c) with
      | false => rfl
      | true => have := O.trans _ _ _ h5 hb; rw [h4] at this; cases this
theorem least_no {lt : CE → CE → Bool} {fs : List CE} {i c f : Nat} (h : LeastOf lt fs i c f) (hb : lt (atE fs c) (atE fs f) = false) : LeastOf lt fs i (c + 1) f := by
  refine ⟨?_, h.2.1, fun j h1 h2 h3 => ?_⟩
  · rcases h.1 with e | ⟨h1, h2, h3⟩
    · exact .inl e
    · exact .inr ⟨h1, by omega, h3⟩
  · by_cases e : j = c
    · rw [e]; exact hb
    · exact h.2.2 j h1 (by omega) h3
/-- At the end all kids are looked at. -/
theorem least_all {lt : CE → CE → Bool} {fs : List CE} {i c f : Nat} (h : LeastOf lt fs i c f) (hc : c = 2 * i + 3 ∨ fs.length ≤ c) : ∀ j, 0 < j → j < fs.length → (j - 1) / 2 = i → lt (atE fs j) (atE fs f) = false := by
  intro j h0 h1 h2
  exact h.2.2 j (by omega) (by omega) h1

set_option maxRecDepth 100000 in
set_option maxHeartbeats 4000000 in
theorem down_calls {fv : Value} {lt : CE → CE → Bool} (O : Ord lt) (B : BeforeIs fv lt) {w : World} {g : Nat} {lv : Value} {es : List CE} {p : Int} (h : HeapAt w g fv lv es p) (i : Nat) (hi : i < es.length) (hdn : DownOK lt es i) (hlen : es.length ≤ 1000000) :
    Calls Try.prog 80 #[.pointer (some ⟨g, 0, none⟩), .int .i64 i] w (Moved lt w g fv lv es p) := by
  obtain ⟨r, cap, hlv, hlc, hcm, hrg, hrl⟩ := h.form' (by omega)
  unfold maxLen at hcm
  obtain ⟨n, hn⟩ : ∃ n, es.length = n := ⟨_, rfl⟩
  rw [hn] at hlv hlc hlen hi
  subst hlv
  have HN := Lib.hid hn
  clear hn
  have H0 := Lib.hid (show HeapAt w g fv (.slice (some ⟨r, 0, none⟩) n cap) es p ∧ DownOK lt es i from ⟨h, hdn⟩)
  clear h hdn
  go_enter Try.func80, Try.ntmps80
  go_wp2_with fail
  go_loopw [1] (fun s wr => ∃ (k : Nat) (fs : List CE), k < n ∧ s = .int .i64 k ∧ Hid (fs.length = n) ∧ Hid (HeapAt wr g fv (.slice (some ⟨r, 0, none⟩) n cap) fs p) ∧ Hid (DownOK lt fs k) ∧ Hid (fs.Perm es) ∧ Hid (Keeps (fun b => r = b) w wr))
    (fun s _ => n - (intOf s).toNat)
  case atStart => exact ⟨i, es, hi, rfl, HN, Lib.hid H0.out.1, Lib.hid H0.out.2, Lib.hid (List.Perm.refl _), Lib.hid (Keeps.refl _ _)⟩
  case round =>
    obtain ⟨k, fs, hk, rfl, HL, HH, HU, HP, HK⟩ := hrel
    obtain ⟨wm, rfl⟩ : ∃ x, x = wr := ⟨wr, rfl⟩
    go_wp2_with fail
    go_loopw [4, 5] (fun s4 s5 wv => ∃ f c : Nat, s4 = .int .i64 f ∧ s5 = .int .i64 c ∧ 2 * k + 1 ≤ c ∧ c ≤ 2 * k + 3 ∧ Hid (LeastOf lt fs k c f) ∧ Hid (Below wm.heap.size wm wv)) (fun _ s5 _ => 2 * k + 3 - (intOf s5).toNat)
    case atStart => exact ⟨k, 2 * k + 1, rfl, by go_num, by omega, by omega, Lib.hid (least_start (by rw [HL.out]; exact hk)), Lib.hid (Below.refl _ _)⟩
    case round =>
      obtain ⟨f, c, rfl, rfl, hc1, hc2, HLe, HBe⟩ := hrel
      obtain ⟨_, c1, _⟩ := (HH.out.below HBe.out).cell
      have hfn : f < n := by have := HLe.out.2.1; rw [HL.out] at this; exact this
      by_cases h3 : c = 2 * k + 3
      · have t1 : decide ((c : Int) ≤ 2 * (k : Int) + 2) = false := decide_eq_false (by omega)
        have HA := Lib.hid (least_all HLe.out (.inl h3))
        have h3' : 2 * k + 3 ≤ c := by omega
        clear h3
        by_cases hfk : f = k
        · subst hfk
          go_wp2_with fail
          go_end0
          exact ⟨rfl, fs, HH.out.below HBe.out, down_stop HU.out HA.out, HP.out, (HK.out.trans (Keeps.of_below HBe.out)).mono (fun b _ e => by simp [Value.ownBlock, e])⟩
        · have t9 : ((f : Int) == (k : Int)) = false := beq_eq_false_iff_ne.2 (by omega)
          go_wp2_with fail
          have H1 := HH.out.below HBe.out
          have hk' : k < fs.length := by rw [HL.out]; exact hk
          have hq' : f < fs.length := by rw [HL.out]; omega
          have H2 := H1
          rw [← HL.out] at H2
          obtain ⟨fk1, fk2, fk3, fk4⟩ := flat_at hk'
          obtain ⟨fq1, fq2, fq3, fq4⟩ := flat_at hq'
          have dk1 := H2.row.cellAt (k * 4) (by omega)
          have dk2 := H2.row.cellAt (k * 4 + 1) (by omega)
          have dk3 := H2.row.cellAt (k * 4 + 2) (by omega)
          have dk4 := H2.row.cellAt (k * 4 + 3) (by omega)
          have dq1 := H2.row.cellAt (f * 4) (by omega)
          have dq2 := H2.row.cellAt (f * 4 + 1) (by omega)
          have dq3 := H2.row.cellAt (f * 4 + 2) (by omega)
          have dq4 := H2.row.cellAt (f * 4 + 3) (by omega)
          rw [fk1] at dk1
          rw [fk2] at dk2
          rw [fk3] at dk3
          rw [fk4] at dk4
          rw [fq1] at dq1
          rw [fq2] at dq2
          rw [fq3] at dq3
          rw [fq4] at dq4
          have zk1 := H2.row.frozenAt (k * 4)
          have zk2 := H2.row.frozenAt (k * 4 + 1)
          have zk3 := H2.row.frozenAt (k * 4 + 2)
          have zk4 := H2.row.frozenAt (k * 4 + 3)
          have zq1 := H2.row.frozenAt (f * 4)
          have zq2 := H2.row.frozenAt (f * 4 + 1)
          have zq3 := H2.row.frozenAt (f * 4 + 2)
          have zq4 := H2.row.frozenAt (f * 4 + 3)
          have SW := Lib.hid (heap_swap H2 k f hk' hq')
          clear H1 H2 fk1 fk2 fk3 fk4 fq1 fq2 fq3 fq4
          obtain ⟨x, hx⟩ : ∃ x, atE fs k = x := ⟨_, rfl⟩
          rw [hx] at dk1 dk2 dk3 dk4
          obtain ⟨y, hy⟩ : ∃ y, atE fs f = y := ⟨_, rfl⟩
          rw [hy] at dq1 dq2 dq3 dq4
          rw [hx, hy] at SW
          clear hx hy hk' hq'
          obtain ⟨⟨⟨x1, x2⟩, ⟨x3, xz, x4⟩⟩, x5⟩ := x
          obtain ⟨⟨⟨y1, y2⟩, ⟨y3, yz, y4⟩⟩, y5⟩ := y
          dsimp only at SW dk1 dk2 dk3 dk4 dq1 dq2 dq3 dq4
          have bk : (k : Int) < (n : Int) := by omega
          have bk0 : (0 : Int) ≤ (k : Int) := by omega
          have bq : (f : Int) < (n : Int) := by omega
          have bq0 : (0 : Int) ≤ (f : Int) := by omega
          have n1 : ¬ k = f := by omega
          have n2 : ¬ f = k := by omega
          have n3 : ¬ k * 4 = f * 4 + 1 := by omega
          have n4 : ¬ f * 4 = k * 4 + 1 := by omega
          have n5 : ¬ k * 4 = f * 4 + 2 := by omega
          have n6 : ¬ f * 4 = k * 4 + 2 := by omega
          have n7 : ¬ k * 4 = f * 4 + 3 := by omega
          have n8 : ¬ f * 4 = k * 4 + 3 := by omega
          have n9 : ¬ k * 4 + 1 = f * 4 := by omega
          have n10 : ¬ f * 4 + 1 = k * 4 := by omega
          have n11 : ¬ k * 4 + 1 = f * 4 + 2 := by omega
          have n12 : ¬ f * 4 + 1 = k * 4 + 2 := by omega
          have n13 : ¬ k * 4 + 1 = f * 4 + 3 := by omega
          have n14 : ¬ f * 4 + 1 = k * 4 + 3 := by omega
          have n15 : ¬ k * 4 + 2 = f * 4 := by omega
          have n16 : ¬ f * 4 + 2 = k * 4 := by omega
          have n17 : ¬ k * 4 + 2 = f * 4 + 1 := by omega
          have n18 : ¬ f * 4 + 2 = k * 4 + 1 := by omega
          have n19 : ¬ k * 4 + 2 = f * 4 + 3 := by omega
          have n20 : ¬ f * 4 + 2 = k * 4 + 3 := by omega
          have n21 : ¬ k * 4 + 3 = f * 4 := by omega
          have n22 : ¬ f * 4 + 3 = k * 4 := by omega
          have n23 : ¬ k * 4 + 3 = f * 4 + 1 := by omega
          have n24 : ¬ f * 4 + 3 = k * 4 + 1 := by omega
          have n25 : ¬ k * 4 + 3 = f * 4 + 2 := by omega
          have n26 : ¬ f * 4 + 3 = k * 4 + 2 := by omega
          go_region
          have KS := Lib.hid (((((((((HK.out.trans (Keeps.of_below HBe.out)).setCell (p := ⟨r, k * 4, none⟩) rfl (.pointer y1)).setCell (p := ⟨r, k * 4 + 1, none⟩) rfl (.int .i64 y2)).setCell (p := ⟨r, k * 4 + 2, none⟩) rfl (.slice y3 yz.length y4)).setCell (p := ⟨r, k * 4 + 3, none⟩) rfl (.int .i64 y5)).setCell (p := ⟨r, f * 4, none⟩) rfl (.pointer x1)).setCell (p := ⟨r, f * 4 + 1, none⟩) rfl (.int .i64 x2)).setCell (p := ⟨r, f * 4 + 2, none⟩) rfl (.slice x3 xz.length x4)).setCell (p := ⟨r, f * 4 + 3, none⟩) rfl (.int .i64 x5))
          have hkf : k < f := by
            rcases HLe.out.1 with e | ⟨e, _, _⟩
            · exact absurd e hfk
            · omega
          have HD := Lib.hid (show DownOK lt (swpL fs k f) f from by
            rcases HLe.out.1 with e | ⟨e1, e2, e3⟩
            · exact absurd e hfk
            · exact down_step O HU.out (by omega) (by rw [HL.out]; exact hfn) (by omega) e3 HA.out)
          clear dk1 dk2 dk3 dk4 dq1 dq2 dq3 dq4 zk1 zk2 zk3 zk4 zq1 zq2 zq3 zq4 c1
          generalize World.setCell (World.setCell _ _ _) _ _ = W at *
          go_wp2_with fail
          go_roundw
          case rel =>
            refine ⟨f, swpL fs k f, by omega, rfl, Lib.hid (by rw [swpL_len]; exact HL.out), Lib.hid ?_, HD, Lib.hid ?_, Lib.hid ?_⟩
            · have := SW.out.drewN 1; rw [HL.out] at this; exact this
            · exact (perm_swp (by rw [HL.out]; exact hk) (by rw [HL.out]; omega)).trans HP.out
            · exact ⟨KS.out.os, KS.out.tape, KS.out.output, KS.out.size, KS.out.block⟩
          case measure => simp [intOf]; omega
      · have t1 : (c : Int) ≤ 2 * (k : Int) + 2 := by omega
        by_cases h4 : c < n
        · obtain ⟨b, hb⟩ : ∃ b, lt (atE fs c) (atE fs f) = b := ⟨_, rfl⟩
          have HB := Lib.hid hb
          have cb : Calls Try.prog 95 #[.pointer (some ⟨g, 0, none⟩), .int .i64 c, .int .i64 f] wr fun e w' => e = .returned (.bool b) ∧ Below wr.heap.size wr w' := by
            rw [← hb]; exact B wr g _ fs p (HH.out.below HBe.out) c f (by rw [HL.out]; exact h4) (by rw [HL.out]; exact hfn)
          clear hb
          cases b
          · go_wp2_with (first | (go_at_call 95; refine cb.mono ?_; rintro e w' ⟨rfl, hbel⟩; have BE := Lib.hid hbel; clear hbel))
            go_roundw
            case rel => exact ⟨f, c + 1, rfl, by go_num, by omega, by omega, Lib.hid (least_no HLe.out HB.out), Lib.hid (HBe.out.trans (BE.out.mono HBe.out.size))⟩
            case measure => simp [intOf]; omega
          · go_wp2_with (first | (go_at_call 95; refine cb.mono ?_; rintro e w' ⟨rfl, hbel⟩; have BE := Lib.hid hbel; clear hbel))
            go_roundw
            case rel => exact ⟨c, c + 1, rfl, by go_num, by omega, by omega, Lib.hid (least_yes O HLe.out hc1 (by rw [HL.out]; exact h4) HB.out), Lib.hid (HBe.out.trans (BE.out.mono HBe.out.size))⟩
            case measure => simp [intOf]; omega
        · have HA := Lib.hid (least_all HLe.out (.inr (by rw [HL.out]; omega)))
          have t2 : decide (c < n) = false := decide_eq_false (by omega)
          by_cases hfk : f = k
          · subst hfk
            go_wp2_with fail
            go_end0
            exact ⟨rfl, fs, HH.out.below HBe.out, down_stop HU.out HA.out, HP.out, (HK.out.trans (Keeps.of_below HBe.out)).mono (fun b _ e => by simp [Value.ownBlock, e])⟩
          · have t9 : ((f : Int) == (k : Int)) = false := beq_eq_false_iff_ne.2 (by omega)
            go_wp2_with fail
            have H1 := HH.out.below HBe.out
            have hk' : k < fs.length := by rw [HL.out]; exact hk
            have hq' : f < fs.length := by rw [HL.out]; omega
            have H2 := H1
            rw [← HL.out] at H2
            obtain ⟨fk1, fk2, fk3, fk4⟩ := flat_at hk'
            obtain ⟨fq1, fq2, fq3, fq4⟩ := flat_at hq'
            have dk1 := H2.row.cellAt (k * 4) (by omega)
            have dk2 := H2.row.cellAt (k * 4 + 1) (by omega)
            have dk3 := H2.row.cellAt (k * 4 + 2) (by omega)
            have dk4 := H2.row.cellAt (k * 4 + 3) (by omega)
            have dq1 := H2.row.cellAt (f * 4) (by omega)
            have dq2 := H2.row.cellAt (f * 4 + 1) (by omega)
            have dq3 := H2.row.cellAt (f * 4 + 2) (by omega)
            have dq4 := H2.row.cellAt (f * 4 + 3) (by omega)
            rw [fk1] at dk1
            rw [fk2] at dk2
            rw [fk3] at dk3
            rw [fk4] at dk4
            rw [fq1] at dq1
            rw [fq2] at dq2
            rw [fq3] at dq3
            rw [fq4] at dq4
            have zk1 := H2.row.frozenAt (k * 4)
            have zk2 := H2.row.frozenAt (k * 4 + 1)
            have zk3 := H2.row.frozenAt (k * 4 + 2)
            have zk4 := H2.row.frozenAt (k * 4 + 3)
            have zq1 := H2.row.frozenAt (f * 4)
            have zq2 := H2.row.frozenAt (f * 4 + 1)
            have zq3 := H2.row.frozenAt (f * 4 + 2)
            have zq4 := H2.row.frozenAt (f * 4 + 3)
            have SW := Lib.hid (heap_swap H2 k f hk' hq')
            clear H1 H2 fk1 fk2 fk3 fk4 fq1 fq2 fq3 fq4
            obtain ⟨x, hx⟩ : ∃ x, atE fs k = x := ⟨_, rfl⟩
            rw [hx] at dk1 dk2 dk3 dk4
            obtain ⟨y, hy⟩ : ∃ y, atE fs f = y := ⟨_, rfl⟩
            rw [hy] at dq1 dq2 dq3 dq4
            rw [hx, hy] at SW
            clear hx hy hk' hq'
            obtain ⟨⟨⟨x1, x2⟩, ⟨x3, xz, x4⟩⟩, x5⟩ := x
            obtain ⟨⟨⟨y1, y2⟩, ⟨y3, yz, y4⟩⟩, y5⟩ := y
            dsimp only at SW dk1 dk2 dk3 dk4 dq1 dq2 dq3 dq4
            have bk : (k : Int) < (n : Int) := by omega
            have bk0 : (0 : Int) ≤ (k : Int) := by omega
            have bq : (f : Int) < (n : Int) := by omega
            have bq0 : (0 : Int) ≤ (f : Int) := by omega
            have n1 : ¬ k = f := by omega
            have n2 : ¬ f = k := by omega
            have n3 : ¬ k * 4 = f * 4 + 1 := by omega
            have n4 : ¬ f * 4 = k * 4 + 1 := by omega
            have n5 : ¬ k * 4 = f * 4 + 2 := by omega
            have n6 : ¬ f * 4 = k * 4 + 2 := by omega
            have n7 : ¬ k * 4 = f * 4 + 3 := by omega
            have n8 : ¬ f * 4 = k * 4 + 3 := by omega
            have n9 : ¬ k * 4 + 1 = f * 4 := by omega
            have n10 : ¬ f * 4 + 1 = k * 4 := by omega
            have n11 : ¬ k * 4 + 1 = f * 4 + 2 := by omega
            have n12 : ¬ f * 4 + 1 = k * 4 + 2 := by omega
            have n13 : ¬ k * 4 + 1 = f * 4 + 3 := by omega
            have n14 : ¬ f * 4 + 1 = k * 4 + 3 := by omega
            have n15 : ¬ k * 4 + 2 = f * 4 := by omega
            have n16 : ¬ f * 4 + 2 = k * 4 := by omega
            have n17 : ¬ k * 4 + 2 = f * 4 + 1 := by omega
            have n18 : ¬ f * 4 + 2 = k * 4 + 1 := by omega
            have n19 : ¬ k * 4 + 2 = f * 4 + 3 := by omega
            have n20 : ¬ f * 4 + 2 = k * 4 + 3 := by omega
            have n21 : ¬ k * 4 + 3 = f * 4 := by omega
            have n22 : ¬ f * 4 + 3 = k * 4 := by omega
            have n23 : ¬ k * 4 + 3 = f * 4 + 1 := by omega
            have n24 : ¬ f * 4 + 3 = k * 4 + 1 := by omega
            have n25 : ¬ k * 4 + 3 = f * 4 + 2 := by omega
            have n26 : ¬ f * 4 + 3 = k * 4 + 2 := by omega
            go_region
            have KS := Lib.hid (((((((((HK.out.trans (Keeps.of_below HBe.out)).setCell (p := ⟨r, k * 4, none⟩) rfl (.pointer y1)).setCell (p := ⟨r, k * 4 + 1, none⟩) rfl (.int .i64 y2)).setCell (p := ⟨r, k * 4 + 2, none⟩) rfl (.slice y3 yz.length y4)).setCell (p := ⟨r, k * 4 + 3, none⟩) rfl (.int .i64 y5)).setCell (p := ⟨r, f * 4, none⟩) rfl (.pointer x1)).setCell (p := ⟨r, f * 4 + 1, none⟩) rfl (.int .i64 x2)).setCell (p := ⟨r, f * 4 + 2, none⟩) rfl (.slice x3 xz.length x4)).setCell (p := ⟨r, f * 4 + 3, none⟩) rfl (.int .i64 x5))
            have hkf : k < f := by
              rcases HLe.out.1 with e | ⟨e, _, _⟩
              · exact absurd e hfk
              · omega
            have HD := Lib.hid (show DownOK lt (swpL fs k f) f from by
              rcases HLe.out.1 with e | ⟨e1, e2, e3⟩
              · exact absurd e hfk
              · exact down_step O HU.out (by omega) (by rw [HL.out]; exact hfn) (by omega) e3 HA.out)
            clear dk1 dk2 dk3 dk4 dq1 dq2 dq3 dq4 zk1 zk2 zk3 zk4 zq1 zq2 zq3 zq4 c1
            generalize World.setCell (World.setCell _ _ _) _ _ = W at *
            go_wp2_with fail
            go_roundw
            case rel =>
              refine ⟨f, swpL fs k f, by omega, rfl, Lib.hid (by rw [swpL_len]; exact HL.out), Lib.hid ?_, HD, Lib.hid ?_, Lib.hid ?_⟩
              · have := SW.out.drewN 1; rw [HL.out] at this; exact this
              · exact (perm_swp (by rw [HL.out]; exact hk) (by rw [HL.out]; omega)).trans HP.out
              · exact ⟨KS.out.os, KS.out.tape, KS.out.output, KS.out.size, KS.out.block⟩
            case measure => simp [intOf]; omega
end Go.Proofs.Ytepkmhcchmladaa.Cu
