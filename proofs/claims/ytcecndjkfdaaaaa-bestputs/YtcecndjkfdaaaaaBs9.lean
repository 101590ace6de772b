/- The head of best's laws; what goes through a law. -/
import Derived.Test.YtcecndjkfdaaaaaBs8
import Derived.Test.YtcecndjkfdaaaaaIx9
namespace Go.Proofs.Ytcecndjkfdaaaaa
open Go.RowKit Go.Maps
set_option linter.unusedVariables false
set_option linter.unusedSimpArgs false

/-- A best of the call's own: its blocks lie from B on. -/
structure BB (B : Nat) (w W : World) (N : Nat → Prop) (g wd : Nat) (great : Bool) (es : List Ent) : Prop where
  b : Bst N W g wd great es
  low : ∀ k, N k → B ≤ k
  bel : Below B w W
  sz : B ≤ W.heap.size
theorem BB.next {B : Nat} {w W W' : World} {N : Nat → Prop} {g wd : Nat} {great : Bool} {es : List Ent} (h : BB B w W N g wd great es) (hb : Below W.heap.size W W') : BB B w W' N g wd great es :=
  ⟨h.b.below hb, h.low, h.bel.trans (hb.mono h.sz), Nat.le_trans h.sz hb.size⟩
theorem BB.put {B : Nat} {w W W' : World} {N : Nat → Prop} {g wd : Nat} {great : Bool} {es es' : List Ent} (h : BB B w W N g wd great es) (hb : Bst (NN N W.heap.size W'.heap.size) W' g wd great es') (hk : Keeps N W W') : BB B w W' (NN N W.heap.size W'.heap.size) g wd great es' :=
  ⟨hb, fun k hk => by
    rcases hk with hk | hk
    · exact h.low k hk
    · exact Nat.le_trans h.sz hk.1, h.bel.trans (hk.below h.sz h.low), Nat.le_trans h.sz hk.size⟩
theorem BB.new {B : Nat} {w W : World} (hb : Below B w W) (hs : B ≤ W.heap.size) (wd : Nat) (great : Bool) : BB B w (W.alloc (.cells #[.int .i64 wd, .bool great, .slice none 0 0, .map none] 86)) (fun k => k = W.heap.size) W.heap.size wd great [] :=
  ⟨⟨_, _, _, BS.new W wd great⟩, fun k hk => by rw [hk]; exact hs, hb.alloc hs _, by simp; omega⟩
theorem BB.fresh {B : Nat} {w W : World} {N : Nat → Prop} {g wd : Nat} {great : Bool} {es : List Ent} (h : BB B w W N g wd great es) {k : Nat} (hk : W.heap.size ≤ k) : ¬ N k := fun hn => by have := h.b.lt k hn; omega
theorem BB.len {B : Nat} {w W : World} {N : Nat → Prop} {g wd : Nat} {great : Bool} {es : List Ent} (h : BB B w W N g wd great es) : Calls Try.prog 31 #[.pointer (some ⟨g, 0, none⟩)] W (fun e w' => e = .returned (.int .i64 es.length) ∧ W = w') := by
  obtain ⟨L, tv, mv, hS⟩ := h.b
  obtain ⟨a, c, htv⟩ := row_form hS.list
  have h2 := hS.c.2.2.1
  rw [htv] at h2
  have := bestLen_calls h2
  rw [hS.len] at this
  exact this
set_option maxRecDepth 100000 in
set_option maxHeartbeats 2000000 in
theorem head10_calls (w : World) : Calls Try.prog 25 #[] w (TrueRet5 w) := by
  obtain ⟨B, hB⟩ : ∃ B, w.heap.size = B := ⟨_, rfl⟩
  have HB := Lib.hid hB
  have H0 := Lib.hid (BB.new (w := w) (W := w) (B := B) (Below.refl _ _) (Nat.le_of_eq hB.symm) 1 false)
  have cn : Calls Try.prog 26 #[.int .i64 1, .bool false] w _ := new_calls ((1 : Nat) : Int) false w
  have r3 : Hid (InRange [3]) := Lib.hid (by intro x hx; simp at hx; subst hx; omega)
  clear hB
  go_enter Try.func25, Try.ntmps25
  go_wp2_with fail
  refine cn.mono ?_
  rintro e W ⟨rfl, rfl⟩
  clear cn
  obtain ⟨g, hg⟩ : ∃ g, w.heap.size = g := ⟨_, rfl⟩
  rw [hg] at H0 ⊢
  clear hg
  generalize World.alloc w _ = W at *
  generalize (fun k => k = g) = N at *
  have R1 := Lib.hid (row1_new W 3 2)
  have H1 := Lib.hid (H0.out.next ((Below.refl W.heap.size W).alloc (Nat.le_refl _) (.cells #[.int .i64 3] 2)))
  have c1 := bput_calls H1.out.b (some ⟨W.heap.size, 0, none⟩) 1 [3] 7 R1.out (fun _ x hx => by cases hx; exact H0.out.fresh (Nat.le_refl _)) rfl r3.out (by omega) (by simp)
  go_wp2_with fail
  refine c1.mono ?_
  rintro e W2 ⟨rfl, hb, hk⟩
  have H2 := Lib.hid (H1.out.put hb hk)
  rw [show putE false [] [3] 7 = [([3], 7)] from rfl] at H2
  rw [show putB false [] [3] 7 = true from rfl]
  clear c1 hb hk H0 H1 R1
  generalize NN N _ _ = N2 at *
  have R1 := Lib.hid (row1_new W2 3 2)
  have H3 := Lib.hid (H2.out.next ((Below.refl W2.heap.size W2).alloc (Nat.le_refl _) (.cells #[.int .i64 3] 2)))
  have c1 := bput_calls H3.out.b (some ⟨W2.heap.size, 0, none⟩) 1 [3] 5 R1.out (fun _ x hx => by cases hx; exact H2.out.fresh (Nat.le_refl _)) rfl r3.out (by omega) (by simp)
  go_wp2_with fail
  refine c1.mono ?_
  rintro e W4 ⟨rfl, hb, hk⟩
  have H4 := Lib.hid (H3.out.put hb hk)
  rw [show putE false [([3], 7)] [3] 5 = [([3], 5)] from by decide] at H4
  rw [show putB false [([3], 7)] [3] 5 = true from by decide]
  clear c1 hb hk H2 H3 R1
  generalize NN N2 _ _ = N4 at *
  have R1 := Lib.hid (row1_new W4 3 2)
  have H5 := Lib.hid (H4.out.next ((Below.refl W4.heap.size W4).alloc (Nat.le_refl _) (.cells #[.int .i64 3] 2)))
  have c1 := bput_calls H5.out.b (some ⟨W4.heap.size, 0, none⟩) 1 [3] 6 R1.out (fun _ x hx => by cases hx; exact H4.out.fresh (Nat.le_refl _)) rfl r3.out (by omega) (by simp)
  go_wp2_with fail
  refine c1.mono ?_
  rintro e W6 ⟨rfl, hb, hk⟩
  have H6 := Lib.hid (H5.out.put hb hk)
  rw [show putE false [([3], 5)] [3] 6 = [([3], 5)] from by decide] at H6
  rw [show putB false [([3], 5)] [3] 6 = false from by decide]
  clear c1 hb hk H4 H5 R1
  generalize NN N4 _ _ = N6 at *
  have R1 := Lib.hid (row1_new W6 3 2)
  have H7 := Lib.hid (H6.out.next ((Below.refl W6.heap.size W6).alloc (Nat.le_refl _) (.cells #[.int .i64 3] 2)))
  have cg := get_calls H7.out.b (some ⟨W6.heap.size, 0, none⟩) 1 [3] R1.out r3.out (by simp) (by omega) (by simp)
  go_wp2_with fail
  refine cg.mono ?_
  rintro e W8 ⟨rfl, hb8⟩
  have H8 := Lib.hid (H7.out.next hb8)
  rw [show costOr (lookE [([3], 5)] [3]) = 5 from by decide, show (lookE [([3], 5)] [3]).isSome = true from by decide]
  clear cg hb8 H6 H7 R1
  have cl := H8.out.len
  go_wp2_with fail
  refine cl.mono ?_
  rintro e w' ⟨rfl, rfl⟩
  go_wp2_with fail
  go_ret
  exact ⟨rfl, by rw [HB.out]; exact H8.out.bel⟩
end Go.Proofs.Ytcecndjkfdaaaaa
