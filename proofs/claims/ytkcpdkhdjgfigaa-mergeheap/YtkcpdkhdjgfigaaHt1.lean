/- A heap of Things in memory; before. Written by mkht.py. -/
import Derived.Test.YtkcpdkhdjgfigaaHp1
namespace Go.Proofs.Ytkcpdkhdjgfigaa.Th
open Go.RowKit
set_option linter.unusedVariables false
set_option linter.unusedSimpArgs false

/-- The cells of a list of entries: value (two cells) and number. -/
def flat (es : List ((Int × Int) × Int)) : List Value := es.flatMap fun e => [.int .i64 e.1.1, .int .i64 e.1.2, .int .i64 e.2]
theorem flat_nil : flat [] = [] := rfl
theorem flat_cons (x : (Int × Int) × Int) (es : List ((Int × Int) × Int)) : flat (x :: es) = .int .i64 x.1.1 :: .int .i64 x.1.2 :: .int .i64 x.2 :: flat es := by simp [flat]
theorem flat_len (es : List ((Int × Int) × Int)) : (flat es).length = es.length * 3 := by
  induction es with
  | nil => rfl
  | cons x es ih => rw [flat_cons]; simp [ih]; omega
theorem flat_append (l r : List ((Int × Int) × Int)) : flat (l ++ r) = flat l ++ flat r := by simp [flat]
theorem flat_at {es : List ((Int × Int) × Int)} {i : Nat} (h : i < es.length) : (flat es)[i * 3]? = some (.int .i64 (atE es i).1.1) ∧ (flat es)[i * 3 + 1]? = some (.int .i64 (atE es i).1.2) ∧ (flat es)[i * 3 + 2]? = some (.int .i64 (atE es i).2) := by
  induction es generalizing i with
  | nil => simp at h
  | cons x es ih =>
    rw [flat_cons]
    cases i with
    | zero => simp [atE]
    | succ i =>
      have := ih (i := i) (by simpa using h)
      rw [show (i + 1) * 3 = i * 3 + 3 by omega]
      simpa [atE] using this
theorem flat_set {es : List ((Int × Int) × Int)} {i : Nat} (x : (Int × Int) × Int) (h : i < es.length) : (((flat es).set (i * 3) (.int .i64 x.1.1)).set (i * 3 + 1) (.int .i64 x.1.2)).set (i * 3 + 2) (.int .i64 x.2) = flat (es.set i x) := by
  induction es generalizing i with
  | nil => simp at h
  | cons y es ih =>
    rw [flat_cons]
    cases i with
    | zero => simp [flat_cons]
    | succ i =>
      have := ih (i := i) (by simpa using h)
      rw [show (i + 1) * 3 = i * 3 + 1 + 1 + 1 by omega]
      simp only [List.set_cons_succ, flat_cons, this]

/-- The heap at block g: its order fv, its list lv with the entries es, p pushed so far. -/
structure HeapAt (w : World) (g : Nat) (fv lv : Value) (es : List ((Int × Int) × Int)) (p : Int) : Prop where
  blk : w.heap[g]? = some (.cells #[fv, lv, .int .i64 p] 85 (0, 0))
  row : w.ownsRow 0 87 3 lv es.length (flat es)
  ne : lv.ownBlock ≠ some g
theorem HeapAt.lt {w : World} {g : Nat} {fv lv : Value} {es : List ((Int × Int) × Int)} {p : Int} (h : HeapAt w g fv lv es p) : g < w.heap.size := (Array.getElem?_eq_some_iff.1 h.blk).1
theorem HeapAt.keeps {N : Nat → Prop} {w w' : World} {g : Nat} {fv lv : Value} {es : List ((Int × Int) × Int)} {p : Int} (h : HeapAt w g fv lv es p) (hk : Keeps N w w') (hg : ¬ N g) (hl : ∀ b, lv.ownBlock = some b → ¬ N b) : HeapAt w' g fv lv es p :=
  ⟨(hk.block g h.lt hg).trans h.blk, owns_keeps h.row hk hl, h.ne⟩
theorem HeapAt.below {w w' : World} {g : Nat} {fv lv : Value} {es : List ((Int × Int) × Int)} {p : Int} (h : HeapAt w g fv lv es p) (hb : Below w.heap.size w w') : HeapAt w' g fv lv es p :=
  h.keeps (N := fun _ => False) (Keeps.of_below hb) (fun h => h) (fun _ _ h => h)
theorem HeapAt.cell {w : World} {g : Nat} {fv lv : Value} {es : List ((Int × Int) × Int)} {p : Int} (h : HeapAt w g fv lv es p) :
    w.cell? ⟨g, 0, none⟩ = some fv ∧ w.cell? ⟨g, 1, none⟩ = some lv ∧ w.cell? ⟨g, 2, none⟩ = some (.int .i64 p) := by
  refine ⟨?_, ?_, ?_⟩ <;> (rw [cell_of_row w g _ _ 85 (0, 0) h.blk]; rfl)
theorem HeapAt.form {w : World} {g : Nat} {fv lv : Value} {es : List ((Int × Int) × Int)} {p : Int} (h : HeapAt w g fv lv es p) : ∃ a cap, lv = .slice a es.length cap := by
  rcases h.row.2 with ⟨rfl, h0⟩ | ⟨r, cap, cur, rfl, _⟩
  · rw [h0]; exact ⟨_, _, rfl⟩
  · exact ⟨_, _, rfl⟩
theorem HeapAt.form' {w : World} {g : Nat} {fv lv : Value} {es : List ((Int × Int) × Int)} {p : Int} (h : HeapAt w g fv lv es p) (h0 : 0 < es.length) : ∃ r cap, lv = .slice (some ⟨r, 0, none⟩) es.length cap ∧ es.length ≤ cap ∧ cap ≤ maxLen ∧ r ≠ g ∧ r < w.heap.size := by
  rcases h.row.2 with ⟨rfl, h1⟩ | ⟨r, cap, cur, rfl, _, hh, h2, h3, _⟩
  · omega
  · exact ⟨_, _, rfl, h2, h3, fun e => h.ne (by simp [Value.ownBlock, e]), (Array.getElem?_eq_some_iff.1 hh).1⟩

theorem newheap_calls (F : Nat) (w : World) : Calls Try.prog 29 #[.func (.func F) #[] #[]] w fun e w' => e = .returned (.pointer (some ⟨w.heap.size, 0, none⟩)) ∧ w' = w.alloc (.cells #[.func (.func F) #[] #[], .slice none 0 0, .int .i64 0] 85) := by
  go_enter Try.func29, Try.ntmps29
  go_wp2_with fail
  go_ret
  exact ⟨rfl, rfl⟩
abbrev thV (a b : Int) : Value := .agg #[.int .i64 a, .int .i64 b]
theorem less_calls (a b c d : Int) (w : World) : Calls Try.prog 30 #[.agg #[.int .i64 a, .int .i64 b], .agg #[.int .i64 c, .int .i64 d]] w fun e w' => e = .returned (.bool (decide (a < c))) ∧ Below w.heap.size w w' := by
  go_enter Try.func30, Try.ntmps30
  go_wp2_with fail
  go_ret
  exact ⟨rfl, ((Below.refl _ _).alloc (Nat.le_refl _) _).alloc (by simp) _⟩
theorem len_calls {w : World} {g : Nat} {fv lv : Value} {es : List ((Int × Int) × Int)} {p : Int} (h : HeapAt w g fv lv es p) : Calls Try.prog 33 #[.pointer (some ⟨g, 0, none⟩)] w fun e w' => e = .returned (.int .i64 es.length) ∧ w = w' := by
  obtain ⟨c0, c1, c2⟩ := h.cell
  obtain ⟨a, cap, rfl⟩ := h.form
  clear h
  go_enter Try.func33, Try.ntmps33
  go_wp2_with fail
  go_ret
  exact ⟨rfl, rfl⟩


/-- Is an entry to be taken before another? -/
def ltT (a b : (Int × Int) × Int) : Bool := decide (a.1.1 < b.1.1) || (!decide (b.1.1 < a.1.1) && decide (a.2 < b.2))
theorem neq_nil (F : Nat) (w : World) : (binOp BinOp.neq 49 (Value.func (Fn.func F) #[] #[]) Value.nilFunc).run Try.prog w = .ok (.bool true) w := by kernel_rfl
attribute [local go_sem ↓] neq_nil

set_option maxRecDepth 100000 in
set_option maxHeartbeats 4000000 in
theorem before_thing {w : World} {g : Nat} {lv : Value} {es : List ((Int × Int) × Int)} {p : Int} (h : HeapAt w g (.func (.func 30) #[] #[]) lv es p) (i j : Nat) (hi : i < es.length) (hj : j < es.length) :
    Calls Try.prog 69 #[.pointer (some ⟨g, 0, none⟩), .int .i64 i, .int .i64 j] w fun e w' => e = .returned (.bool (ltT (atE es i) (atE es j))) ∧ Below w.heap.size w w' := by
  obtain ⟨c0, c1, c2⟩ := h.cell
  obtain ⟨r, cap, rfl, hlc, hcm, hrg, hrl⟩ := h.form' (by omega)
  have hgl := h.lt
  obtain ⟨fi1, fi2, fi3⟩ := flat_at hi
  obtain ⟨fj1, fj2, fj3⟩ := flat_at hj
  have di1 := h.row.cellAt (i * 3) (by omega)
  have di2 := h.row.cellAt (i * 3 + 1) (by omega)
  have di3 := h.row.cellAt (i * 3 + 2) (by omega)
  have dj1 := h.row.cellAt (j * 3) (by omega)
  have dj2 := h.row.cellAt (j * 3 + 1) (by omega)
  have dj3 := h.row.cellAt (j * 3 + 2) (by omega)
  rw [fi1] at di1
  rw [fi2] at di2
  rw [fi3] at di3
  rw [fj1] at dj1
  rw [fj2] at dj2
  rw [fj3] at dj3
  generalize atE es i = x at *
  generalize atE es j = y at *
  obtain ⟨⟨x1, x2⟩, x3⟩ := x
  obtain ⟨⟨y1, y2⟩, y3⟩ := y
  generalize es.length = n at *
  unfold maxLen at hcm
  clear fi1 fi2 fi3 fj1 fj2 fj3 h
  have bi : (0 : Int) ≤ (i : Int) := by omega
  have bi' : (i : Int) < (n : Int) := by omega
  have bj : (0 : Int) ≤ (j : Int) := by omega
  have bj' : (j : Int) < (n : Int) := by omega
  simp only at di1 di2 di3 dj1 dj2 dj3
  obtain ⟨b1, hb1⟩ : ∃ b, decide (x1 < y1) = b := ⟨_, rfl⟩
  obtain ⟨b2, hb2⟩ : ∃ b, decide (y1 < x1) = b := ⟨_, rfl⟩
  have l1 : ∀ W, Calls Try.prog 30 #[.agg #[.int .i64 x1, .int .i64 x2], .agg #[.int .i64 y1, .int .i64 y2]] W fun e w' => e = .returned (.bool b1) ∧ Below W.heap.size W w' := fun W => by rw [← hb1]; exact less_calls _ _ _ _ W
  have l2 : ∀ W, Calls Try.prog 30 #[.agg #[.int .i64 y1, .int .i64 y2], .agg #[.int .i64 x1, .int .i64 x2]] W fun e w' => e = .returned (.bool b2) ∧ Below W.heap.size W w' := fun W => by rw [← hb2]; exact less_calls _ _ _ _ W
  have EQ : Hid (ltT ((x1, x2), x3) ((y1, y2), y3) = (b1 || (!b2 && decide (x3 < y3)))) := Lib.hid (by unfold ltT; simp only; rw [hb1, hb2])
  clear hb1 hb2
  go_enter Try.func69, Try.ntmps69
  go_wp2_with fail
  go_region
  · generalize hW : World.drew _ = W
    have HW := Lib.hid hW
    clear hW
    have k0 : W.cell? ⟨g, 0, none⟩ = some (.func (.func 30) #[] #[]) := by rw [← HW.out]; go_simp
    have k1 : W.cell? ⟨w.heap.size, 0, none⟩ = some (.int .i64 x1) := by rw [← HW.out]; go_simp
    have k2 : W.cell? ⟨w.heap.size, 1, none⟩ = some (.int .i64 x2) := by rw [← HW.out]; go_simp
    have k3 : W.cell? ⟨w.heap.size, 2, none⟩ = some (.int .i64 x3) := by rw [← HW.out]; go_simp
    have k4 : W.cell? ⟨w.heap.size + 1, 0, none⟩ = some (.int .i64 y1) := by rw [← HW.out]; go_simp
    have k5 : W.cell? ⟨w.heap.size + 1, 1, none⟩ = some (.int .i64 y2) := by rw [← HW.out]; go_simp
    have k6 : W.cell? ⟨w.heap.size + 1, 2, none⟩ = some (.int .i64 y3) := by rw [← HW.out]; go_simp
    have HSZ : Hid (W.heap.size = w.heap.size + 2) := Lib.hid (by rw [← HW.out]; simp)
    have B : Below w.heap.size w W := by rw [← HW.out]; exact below_drewN (((Below.refl _ _).alloc (Nat.le_refl _) _).alloc (by simp) _) 1
    have B' := Lib.hid B
    clear B HW c0 c1 c2 di1 di2 di3 dj1 dj2 dj3
    cases b1
    · go_wp2_with fail
      go_still_tail 8, (by kernel_rfl)
      change wpList _ _ _ _ _ W.drew
      have B2 : Hid (Below w.heap.size w W.drew) := Lib.hid (below_drewN B'.out 1)
      have m0 : W.drew.cell? _ = _ := k0
      have m1 : W.drew.cell? _ = _ := k1
      have m2 : W.drew.cell? _ = _ := k2
      have m3 : W.drew.cell? _ = _ := k3
      have m4 : W.drew.cell? _ = _ := k4
      have m5 : W.drew.cell? _ = _ := k5
      have m6 : W.drew.cell? _ = _ := k6
      have HS2 : Hid (W.drew.heap.size = w.heap.size + 2) := HSZ
      clear k0 k1 k2 k3 k4 k5 k6
      generalize W.drew = V at *
      go_wp2_with fail
      refine (l1 _).mono ?_
      rintro e V2 ⟨rfl, hb⟩
      have p0 := (hb.cell (p := ⟨g, 0, none⟩) (by rw [HS2.out]; show g < _; omega)).trans m0
      have p1 := (hb.cell (p := ⟨w.heap.size, 0, none⟩) (by rw [HS2.out]; show w.heap.size < _; omega)).trans m1
      have p2 := (hb.cell (p := ⟨w.heap.size, 1, none⟩) (by rw [HS2.out]; show w.heap.size < _; omega)).trans m2
      have p3 := (hb.cell (p := ⟨w.heap.size, 2, none⟩) (by rw [HS2.out]; show w.heap.size < _; omega)).trans m3
      have p4 := (hb.cell (p := ⟨w.heap.size + 1, 0, none⟩) (by rw [HS2.out]; show w.heap.size + 1 < _; omega)).trans m4
      have p5 := (hb.cell (p := ⟨w.heap.size + 1, 1, none⟩) (by rw [HS2.out]; show w.heap.size + 1 < _; omega)).trans m5
      have p6 := (hb.cell (p := ⟨w.heap.size + 1, 2, none⟩) (by rw [HS2.out]; show w.heap.size + 1 < _; omega)).trans m6
      have B3 : Hid (Below w.heap.size w V2) := Lib.hid (B2.out.trans (hb.mono (by rw [HS2.out]; omega)))
      have HS3 : Hid (w.heap.size + 2 ≤ V2.heap.size) := Lib.hid (by have := hb.size; rw [HS2.out] at this; exact this)
      clear hb m0 m1 m2 m3 m4 m5 m6
      go_wp2_with fail
      go_still_tail 8, (by kernel_rfl)
      change wpList _ _ _ _ _ V2.drew
      have B4 : Hid (Below w.heap.size w V2.drew) := Lib.hid (below_drewN B3.out 1)
      have m0 : V2.drew.cell? _ = _ := p0
      have m1 : V2.drew.cell? _ = _ := p1
      have m2 : V2.drew.cell? _ = _ := p2
      have m3 : V2.drew.cell? _ = _ := p3
      have m4 : V2.drew.cell? _ = _ := p4
      have m5 : V2.drew.cell? _ = _ := p5
      have m6 : V2.drew.cell? _ = _ := p6
      have HS4 : Hid (w.heap.size + 2 ≤ V2.drew.heap.size) := HS3
      clear p0 p1 p2 p3 p4 p5 p6
      generalize V2.drew = V at *
      go_wp2_with fail
      refine (l2 _).mono ?_
      rintro e V3 ⟨rfl, hb⟩
      have p3 := (hb.cell (p := ⟨w.heap.size, 2, none⟩) (by have := HS4.out; show w.heap.size < _; omega)).trans m3
      have p6 := (hb.cell (p := ⟨w.heap.size + 1, 2, none⟩) (by have := HS4.out; show w.heap.size + 1 < _; omega)).trans m6
      have B5 : Hid (Below w.heap.size w V3) := Lib.hid (B4.out.trans (hb.mono (by have := HS4.out; omega)))
      clear hb m0 m1 m2 m3 m4 m5 m6
      cases b2
      · go_wp2_with fail
        go_ret
        exact ⟨by rw [EQ.out]; rfl, B5.out⟩
      · go_wp2_with fail
        go_ret
        exact ⟨by rw [EQ.out]; rfl, B5.out⟩
    · go_wp2_with fail
      go_still_tail 8, (by kernel_rfl)
      change wpList _ _ _ _ _ W.drew
      have B2 : Hid (Below w.heap.size w W.drew) := Lib.hid (below_drewN B'.out 1)
      have HS2 : Hid (W.drew.heap.size = w.heap.size + 2) := HSZ
      clear k0 k1 k2 k3 k4 k5 k6
      generalize W.drew = V at *
      go_wp2_with fail
      refine (l1 _).mono ?_
      rintro e V2 ⟨rfl, hb⟩
      have B3 : Hid (Below w.heap.size w V2) := Lib.hid (B2.out.trans (hb.mono (by rw [HS2.out]; omega)))
      clear hb
      go_wp2_with fail
      go_ret
      exact ⟨by rw [EQ.out]; rfl, B3.out⟩
  · generalize hW : World.drew _ = W
    have HW := Lib.hid hW
    clear hW
    have k0 : W.cell? ⟨g, 0, none⟩ = some (.func (.func 30) #[] #[]) := by rw [← HW.out]; go_simp
    have k1 : W.cell? ⟨w.heap.size + 1, 0, none⟩ = some (.int .i64 x1) := by rw [← HW.out]; go_simp
    have k2 : W.cell? ⟨w.heap.size + 1, 1, none⟩ = some (.int .i64 x2) := by rw [← HW.out]; go_simp
    have k3 : W.cell? ⟨w.heap.size + 1, 2, none⟩ = some (.int .i64 x3) := by rw [← HW.out]; go_simp
    have k4 : W.cell? ⟨w.heap.size, 0, none⟩ = some (.int .i64 y1) := by rw [← HW.out]; go_simp
    have k5 : W.cell? ⟨w.heap.size, 1, none⟩ = some (.int .i64 y2) := by rw [← HW.out]; go_simp
    have k6 : W.cell? ⟨w.heap.size, 2, none⟩ = some (.int .i64 y3) := by rw [← HW.out]; go_simp
    have HSZ : Hid (W.heap.size = w.heap.size + 2) := Lib.hid (by rw [← HW.out]; simp)
    have B : Below w.heap.size w W := by rw [← HW.out]; exact below_drewN (((Below.refl _ _).alloc (Nat.le_refl _) _).alloc (by simp) _) 1
    have B' := Lib.hid B
    clear B HW c0 c1 c2 di1 di2 di3 dj1 dj2 dj3
    cases b1
    · go_wp2_with fail
      go_still_tail 8, (by kernel_rfl)
      change wpList _ _ _ _ _ W.drew
      have B2 : Hid (Below w.heap.size w W.drew) := Lib.hid (below_drewN B'.out 1)
      have m0 : W.drew.cell? _ = _ := k0
      have m1 : W.drew.cell? _ = _ := k1
      have m2 : W.drew.cell? _ = _ := k2
      have m3 : W.drew.cell? _ = _ := k3
      have m4 : W.drew.cell? _ = _ := k4
      have m5 : W.drew.cell? _ = _ := k5
      have m6 : W.drew.cell? _ = _ := k6
      have HS2 : Hid (W.drew.heap.size = w.heap.size + 2) := HSZ
      clear k0 k1 k2 k3 k4 k5 k6
      generalize W.drew = V at *
      go_wp2_with fail
      refine (l1 _).mono ?_
      rintro e V2 ⟨rfl, hb⟩
      have p0 := (hb.cell (p := ⟨g, 0, none⟩) (by rw [HS2.out]; show g < _; omega)).trans m0
      have p1 := (hb.cell (p := ⟨w.heap.size + 1, 0, none⟩) (by rw [HS2.out]; show w.heap.size + 1 < _; omega)).trans m1
      have p2 := (hb.cell (p := ⟨w.heap.size + 1, 1, none⟩) (by rw [HS2.out]; show w.heap.size + 1 < _; omega)).trans m2
      have p3 := (hb.cell (p := ⟨w.heap.size + 1, 2, none⟩) (by rw [HS2.out]; show w.heap.size + 1 < _; omega)).trans m3
      have p4 := (hb.cell (p := ⟨w.heap.size, 0, none⟩) (by rw [HS2.out]; show w.heap.size < _; omega)).trans m4
      have p5 := (hb.cell (p := ⟨w.heap.size, 1, none⟩) (by rw [HS2.out]; show w.heap.size < _; omega)).trans m5
      have p6 := (hb.cell (p := ⟨w.heap.size, 2, none⟩) (by rw [HS2.out]; show w.heap.size < _; omega)).trans m6
      have B3 : Hid (Below w.heap.size w V2) := Lib.hid (B2.out.trans (hb.mono (by rw [HS2.out]; omega)))
      have HS3 : Hid (w.heap.size + 2 ≤ V2.heap.size) := Lib.hid (by have := hb.size; rw [HS2.out] at this; exact this)
      clear hb m0 m1 m2 m3 m4 m5 m6
      go_wp2_with fail
      go_still_tail 8, (by kernel_rfl)
      change wpList _ _ _ _ _ V2.drew
      have B4 : Hid (Below w.heap.size w V2.drew) := Lib.hid (below_drewN B3.out 1)
      have m0 : V2.drew.cell? _ = _ := p0
      have m1 : V2.drew.cell? _ = _ := p1
      have m2 : V2.drew.cell? _ = _ := p2
      have m3 : V2.drew.cell? _ = _ := p3
      have m4 : V2.drew.cell? _ = _ := p4
      have m5 : V2.drew.cell? _ = _ := p5
      have m6 : V2.drew.cell? _ = _ := p6
      have HS4 : Hid (w.heap.size + 2 ≤ V2.drew.heap.size) := HS3
      clear p0 p1 p2 p3 p4 p5 p6
      generalize V2.drew = V at *
      go_wp2_with fail
      refine (l2 _).mono ?_
      rintro e V3 ⟨rfl, hb⟩
      have p3 := (hb.cell (p := ⟨w.heap.size + 1, 2, none⟩) (by have := HS4.out; show w.heap.size + 1 < _; omega)).trans m3
      have p6 := (hb.cell (p := ⟨w.heap.size, 2, none⟩) (by have := HS4.out; show w.heap.size < _; omega)).trans m6
      have B5 : Hid (Below w.heap.size w V3) := Lib.hid (B4.out.trans (hb.mono (by have := HS4.out; omega)))
      clear hb m0 m1 m2 m3 m4 m5 m6
      cases b2
      · go_wp2_with fail
        go_ret
        exact ⟨by rw [EQ.out]; rfl, B5.out⟩
      · go_wp2_with fail
        go_ret
        exact ⟨by rw [EQ.out]; rfl, B5.out⟩
    · go_wp2_with fail
      go_still_tail 8, (by kernel_rfl)
      change wpList _ _ _ _ _ W.drew
      have B2 : Hid (Below w.heap.size w W.drew) := Lib.hid (below_drewN B'.out 1)
      have HS2 : Hid (W.drew.heap.size = w.heap.size + 2) := HSZ
      clear k0 k1 k2 k3 k4 k5 k6
      generalize W.drew = V at *
      go_wp2_with fail
      refine (l1 _).mono ?_
      rintro e V2 ⟨rfl, hb⟩
      have B3 : Hid (Below w.heap.size w V2) := Lib.hid (B2.out.trans (hb.mono (by rw [HS2.out]; omega)))
      clear hb
      go_wp2_with fail
      go_ret
      exact ⟨by rw [EQ.out]; rfl, B3.out⟩
end Go.Proofs.Ytkcpdkhdjgfigaa.Th
