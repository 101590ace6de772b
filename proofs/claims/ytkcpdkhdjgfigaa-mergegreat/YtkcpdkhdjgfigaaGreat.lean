/- The walk of MergeGreat. -/
import Derived.Test.YtkcpdkhdjgfigaaHp7
import Derived.Test.YtkcpdkhdjgfigaaRw
namespace Go.Proofs.Ytkcpdkhdjgfigaa
open Go.RowKit
set_option linter.unusedVariables false
set_option linter.unusedSimpArgs false

theorem take_push' {zs : List Int} {k : Nat} {bag : List (Int × Int)} (h : k < zs.length) (hp : (bag.map Prod.fst).Perm (zs.take k)) (p : Int) : ((((zs[k]?.getD 0), p) :: bag).map Prod.fst).Perm (zs.take (k + 1)) := by
  rw [List.take_succ_eq_append_getElem h, List.getElem?_eq_getElem h]
  simp only [List.map_cons, Option.getD_some]
  exact (hp.cons _).trans (List.perm_append_comm (l₁ := [zs[k]]))
/-- Two ascending lists of the same numbers are one. -/
theorem sorted_unique {a b : List Int} (ha : a.Pairwise (· ≤ ·)) (hb : b.Pairwise (· ≤ ·)) (h : a.Perm b) : a = b := by
  induction a generalizing b with
  | nil => exact h.symm.eq_nil.symm
  | cons x a ih => cases b with
    | nil => exact absurd h.eq_nil (by simp)
    | cons y b =>
      obtain ⟨ha1, ha2⟩ := List.pairwise_cons.1 ha
      obtain ⟨hb1, hb2⟩ := List.pairwise_cons.1 hb
      have hxy : x = y := by
        have h1 : x ∈ y :: b := h.subset (by simp)
        have h2 : y ∈ x :: a := h.symm.subset (by simp)
        rcases List.mem_cons.1 h1 with e | e
        · exact e
        · rcases List.mem_cons.1 h2 with e' | e'
          · exact e'.symm
          · have := ha1 y e'; have := hb1 x e; omega
      subst hxy
      rw [ih ha2 hb2 h.cons_inv]
theorem great_at {us ds zs : List Int} (ha : us.Pairwise (· ≤ ·)) (hb : ds.Pairwise (· ≥ ·)) (h1 : us.Perm zs) (h2 : ds.Perm zs) {k : Nat} (hk : k < us.length) : us[k]?.getD 0 = ds[ds.length - 1 - k]?.getD 0 := by
  have e : us = ds.reverse := sorted_unique ha (List.pairwise_reverse.2 hb) ((h1.trans h2.symm).trans (List.reverse_perm ds).symm)
  subst e
  simp at hk
  rw [List.getElem?_reverse hk]

/-- Blocks of other element types are other blocks. -/
theorem hs_row_apart {lt : (Int × Int) → (Int × Int) → Bool} {w : World} {g : Nat} {own : Option Nat} {fv : Value} {bag : List (Int × Int)} {p : Int} (h : HS lt w g own fv bag p) {base n : Nat} {v : Value} {xs : List Value} (hr : w.ownsRow base 3 1 v n xs) : ∀ b, v.ownBlock = some b → ¬ (b = g ∨ own = some b) := by
  obtain ⟨lv, es, hA, hI, hP, hO⟩ := h
  intro b hb hn
  rcases hr.2 with ⟨rfl, _⟩ | ⟨r, cap, cur, rfl, _, hh, _⟩
  · simp [Value.ownBlock] at hb
  · obtain rfl : r = b := by simpa [Value.ownBlock] using hb
    rcases hn with rfl | hn
    · have := hA.blk; rw [hh] at this; simp at this
    · rcases hA.row.2 with ⟨rfl, _⟩ | ⟨r', cap', cur', rfl, _, hh', _⟩
      · rw [← hO] at hn; simp [Value.ownBlock] at hn
      · obtain rfl : r' = r := by rw [← hO] at hn; simpa [Value.ownBlock] using hn
        rw [hh] at hh'; simp at hh'
theorem hs_hs_apart {lt lt' : (Int × Int) → (Int × Int) → Bool} {w : World} {g g' : Nat} {own own' : Option Nat} {fv fv' : Value} {bag bag' : List (Int × Int)} {p p' : Int} (h : HS lt w g own fv bag p) (h' : HS lt' w g' own' fv' bag' p') (hg : g ≠ g') (ho : ∀ b, own = some b → own' ≠ some b) : ∀ b, (b = g ∨ own = some b) → ¬ (b = g' ∨ own' = some b) := by
  obtain ⟨lv, es, hA, hI, hP, hO⟩ := h
  obtain ⟨lv', es', hA', hI', hP', hO'⟩ := h'
  have key : ∀ {lv : Value} {es : List (Int × Int)} {b : Nat}, w.ownsRow 0 92 2 lv es.length (flat es) → lv.ownBlock = some b → ∃ cur, w.heap[b]? = some (.cells cur 92 (0, 0)) := by
    intro lv es b hr hb
    rcases hr.2 with ⟨rfl, _⟩ | ⟨r, cap, cur, rfl, _, hh, _⟩
    · simp [Value.ownBlock] at hb
    · obtain rfl : r = b := by simpa [Value.ownBlock] using hb
      exact ⟨cur, hh⟩
  rintro b (rfl | hb) (rfl | hb')
  · exact hg rfl
  · obtain ⟨cur, hc⟩ := key hA'.row (hO'.trans hb')
    have := hA.blk; rw [hc] at this; simp at this
  · obtain ⟨cur, hc⟩ := key hA.row (hO.trans hb)
    have := hA'.blk; rw [hc] at this; simp at this
  · exact ho b hb hb'

theorem HS.drewN {lt : (Int × Int) → (Int × Int) → Bool} {w : World} {g : Nat} {own : Option Nat} {fv : Value} {bag : List (Int × Int)} {p : Int} (h : HS lt w g own fv bag p) (n : Nat) : HS lt (w.drewN n) g own fv bag p := by
  obtain ⟨lv, es, hA, hI, hP, hO⟩ := h
  exact ⟨lv, es, hA.drewN n, hI, hP, hO⟩

/-- Two heaps of the call's own, one by each order. -/
structure Two (B : Nat) (w : World) (g1 g2 : Nat) (o1 o2 : Option Nat) (bag1 bag2 : List (Int × Int)) (p : Int) : Prop where
  h1 : HS ltL w g1 o1 fL bag1 p
  h2 : HS ltM w g2 o2 fM bag2 p
  b1 : ∀ b, (b = g1 ∨ o1 = some b) → B ≤ b
  b2 : ∀ b, (b = g2 ∨ o2 = some b) → B ≤ b
  ne : g1 ≠ g2
  no : ∀ b, o1 = some b → o2 ≠ some b
theorem Two.keeps {B : Nat} {w w' : World} {g1 g2 : Nat} {o1 o2 : Option Nat} {bag1 bag2 : List (Int × Int)} {p : Int} (h : Two B w g1 g2 o1 o2 bag1 bag2 p) {N : Nat → Prop} (hk : Keeps N w w') (hn : ∀ b, N b → ¬ (b = g1 ∨ o1 = some b) ∧ ¬ (b = g2 ∨ o2 = some b)) : Two B w' g1 g2 o1 o2 bag1 bag2 p :=
  ⟨h.h1.keeps hk (fun e => (hn _ e).1 (.inl rfl)) (fun b hb e => (hn b e).1 (.inr hb)), h.h2.keeps hk (fun e => (hn _ e).2 (.inl rfl)) (fun b hb e => (hn b e).2 (.inr hb)), h.b1, h.b2, h.ne, h.no⟩

theorem Two.pop1 {B : Nat} {w w' : World} {g1 g2 : Nat} {o1 o2 : Option Nat} {bag1 bag2 bag1' : List (Int × Int)} {p : Int} (h : Two B w g1 g2 o1 o2 bag1 bag2 p) (hs : HS ltL w' g1 o1 fL bag1' p) (hk : Keeps (fun b => b = g1 ∨ o1 = some b) w w') : Two B w' g1 g2 o1 o2 bag1' bag2 p :=
  have ap := hs_hs_apart h.h1 h.h2 h.ne h.no
  ⟨hs, h.h2.keeps hk (fun e => ap _ e (.inl rfl)) (fun b hb e => ap _ e (.inr hb)), h.b1, h.b2, h.ne, h.no⟩
theorem Two.pop2 {B : Nat} {w w' : World} {g1 g2 : Nat} {o1 o2 : Option Nat} {bag1 bag2 bag2' : List (Int × Int)} {p : Int} (h : Two B w g1 g2 o1 o2 bag1 bag2 p) (hs : HS ltM w' g2 o2 fM bag2' p) (hk : Keeps (fun b => b = g2 ∨ o2 = some b) w w') : Two B w' g1 g2 o1 o2 bag1 bag2' p :=
  have ap := hs_hs_apart h.h1 h.h2 h.ne h.no
  ⟨h.h1.keeps hk (fun e => ap _ (.inl rfl) e) (fun b hb e => ap _ (.inr hb) e), hs, h.b1, h.b2, h.ne, h.no⟩
/-- Two lists of numbers of the call's own, apart from each other. -/
structure Rws (B : Nat) (w : World) (va vb : Value) (us ds : List Int) : Prop where
  ra : w.ownsRow B 3 1 va us.length (us.map (Value.int .i64))
  rb : w.ownsRow B 3 1 vb ds.length (ds.map (Value.int .i64))
  ne : ∀ b, va.ownBlock = some b → vb.ownBlock ≠ some b
theorem Rws.swap {B : Nat} {w : World} {va vb : Value} {us ds : List Int} (h : Rws B w va vb us ds) : Rws B w vb va ds us := ⟨h.rb, h.ra, fun b h1 h2 => h.ne b h2 h1⟩
theorem Rws.keeps {B : Nat} {w w' : World} {va vb : Value} {us ds : List Int} (h : Rws B w va vb us ds) {N : Nat → Prop} (hk : Keeps N w w') (h1 : ∀ b, va.ownBlock = some b → ¬ N b) (h2 : ∀ b, vb.ownBlock = some b → ¬ N b) : Rws B w' va vb us ds :=
  ⟨owns_keeps h.ra hk h1, owns_keeps h.rb hk h2, h.ne⟩
theorem rows_app {B : Nat} {w w' : World} {g1 g2 : Nat} {o1 o2 : Option Nat} {bag1 bag2 : List (Int × Int)} {p : Int} {va vb va' : Value} {us ds : List Int} {x : Int} (hT : Two B w g1 g2 o1 o2 bag1 bag2 p) (hR : Rws B w va vb us ds) (hB : B ≤ w.heap.size)
    (hown : w'.ownsRow B 3 1 va' (us.length + 1) (us.map (Value.int .i64) ++ [.int .i64 x])) (hgrow : (w.alloc (.cells #[.int .i64 x] 3)).grownBy w' va.ownBlock) (hat : va'.ownBlock = va.ownBlock ∨ va'.ownBlock = some (w.heap.size + 1)) :
    Two B w' g1 g2 o1 o2 bag1 bag2 p ∧ Rws B w' va' vb (us ++ [x]) ds ∧ Below B w w' := by
  have hk : Keeps (fun b => va.ownBlock = some b) w w' := ((Keeps.refl _ w).alloc _).trans (Keeps.of_grown (N := fun b => va.ownBlock = some b) hgrow (fun k hk => hk))
  refine ⟨hT.keeps hk (fun b hb => ⟨hs_row_apart hT.h1 hR.ra b hb, hs_row_apart hT.h2 hR.ra b hb⟩), ⟨by rw [List.map_append, List.length_append]; exact hown, owns_keeps hR.rb hk (fun b h1 h2 => hR.ne b h2 h1), fun b h1 h2 => ?_⟩, hk.below hB (fun k hk => (hR.ra.lt k hk).1)⟩
  rcases hat with e | e
  · exact hR.ne b (e.symm.trans h1) h2
  · rw [e] at h1
    have := (hR.rb.lt b h2).2
    simp at h1; omega
/-- What has been popped so far, by both orders. -/
structure Half (zs us : List Int) (bag : List (Int × Int)) (k : Nat) : Prop where
  len : us.length = k
  perm : (us ++ bag.map Prod.fst).Perm zs
theorem Half.bag {zs us : List Int} {bag : List (Int × Int)} {k : Nat} (h : Half zs us bag k) : bag.length + k = zs.length := by
  have := h.perm.length_eq; have := h.len; simp at *; omega
theorem Half.step {zs us : List Int} {bag bag' : List (Int × Int)} {k : Nat} {x1 x2 : Int} (h : Half zs us bag k) (hp : bag.Perm ((x1, x2) :: bag')) : Half zs (us ++ [x1]) bag' (k + 1) := by
  refine ⟨by simp [h.len], ?_⟩
  have h1 := h.perm
  have h2 := (hp.map Prod.fst).append_left us
  simp only [List.map_cons] at h2
  rw [List.append_assoc]
  exact h2.symm.trans h1
def AscOK (us : List Int) (bag : List (Int × Int)) : Prop := us.Pairwise (· ≤ ·) ∧ ∀ x ∈ us, ∀ y ∈ bag, x ≤ y.1
def DscOK (us : List Int) (bag : List (Int × Int)) : Prop := us.Pairwise (· ≥ ·) ∧ ∀ x ∈ us, ∀ y ∈ bag, y.1 ≤ x
theorem asc_step {us : List Int} {bag bag' : List (Int × Int)} {x1 x2 : Int} (h : AscOK us bag) (hp : bag.Perm ((x1, x2) :: bag')) (hl : ∀ y ∈ bag', ltL y (x1, x2) = false) : AscOK (us ++ [x1]) bag' := by
  have hx : (x1, x2) ∈ bag := hp.symm.subset (by simp)
  refine ⟨List.pairwise_append.2 ⟨h.1, List.pairwise_singleton _ _, fun a ha b hb => ?_⟩, fun a ha y hy => ?_⟩
  · rw [List.mem_singleton] at hb; subst hb; exact h.2 a ha _ hx
  · rcases List.mem_append.1 ha with ha | ha
    · exact h.2 a ha y (hp.symm.subset (List.mem_cons_of_mem _ hy))
    · rw [List.mem_singleton] at ha; subst ha
      have := hl y hy; rw [ltL_not] at this; simp only at this; omega
theorem dsc_step {us : List Int} {bag bag' : List (Int × Int)} {x1 x2 : Int} (h : DscOK us bag) (hp : bag.Perm ((x1, x2) :: bag')) (hl : ∀ y ∈ bag', ltM y (x1, x2) = false) : DscOK (us ++ [x1]) bag' := by
  have hx : (x1, x2) ∈ bag := hp.symm.subset (by simp)
  refine ⟨List.pairwise_append.2 ⟨h.1, List.pairwise_singleton _ _, fun a ha b hb => ?_⟩, fun a ha y hy => ?_⟩
  · rw [List.mem_singleton] at hb; subst hb; exact h.2 a ha _ hx
  · rcases List.mem_append.1 ha with ha | ha
    · exact h.2 a ha y (hp.symm.subset (List.mem_cons_of_mem _ hy))
    · rw [List.mem_singleton] at ha; subst ha
      have := hl y hy; rw [ltM_not] at this; simp only at this; omega
/-- The state in the midst of the pops. -/
def Mid (B : Nat) (w wr : World) (g1 g2 : Nat) (zs : List Int) (k : Nat) (va vb : Value) : Prop :=
  ∃ o1 o2 bag1 bag2 us ds, Two B wr g1 g2 o1 o2 bag1 bag2 zs.length ∧ Rws B wr va vb us ds ∧ Half zs us bag1 k ∧ Half zs ds bag2 k ∧ AscOK us bag1 ∧ DscOK ds bag2 ∧ Below B w wr

set_option maxRecDepth 100000 in
set_option maxHeartbeats 8000000 in
theorem great_walk (a : Option Addr) (cap : Nat) (zs : List Int) (w : World) (hR : Row w a zs) (hmx : zs.length ≤ maxLen) :
    Calls Try.prog 11 #[.slice a zs.length cap] w (TrueRet w) := by
  obtain ⟨i0, hi, hz0, hz1, hz2⟩ := info_parts info3
  have I := Lib.hid hi
  have Z0 := Lib.hid hz0
  have Z1 := Lib.hid hz1
  have Z2 := Lib.hid hz2
  clear hi hz0 hz1 hz2
  unfold maxLen at hmx
  obtain ⟨B, hB⟩ : ∃ B, w.heap.size = B := ⟨_, rfl⟩
  have HB0 := Lib.hid hB
  clear hB
  by_cases hlen : 200 < zs.length
  · go_enter Try.func11, Try.ntmps11
    go_wp2_with (first | (go_at_call 28; refine (head6_calls _).mono ?_; rintro e wh ⟨rfl, hbh⟩; have BH := Lib.hid hbh; clear hbh))
    go_ret
    exact ⟨rfl, BH.out⟩
  · have hlen' : zs.length ≤ 200 := by omega
    have t0 : decide ((200 : Int) < (zs.length : Int)) = false := decide_eq_false (by omega)
    go_enter Try.func11, Try.ntmps11
    go_wp2_with (first | (go_at_call 28; refine (head6_calls _).mono ?_; rintro e wh ⟨rfl, hbh⟩; have BH := Lib.hid hbh; clear hbh) | (go_at_call 34; refine (newheap_calls _ _).mono ?_; rintro e w0 ⟨rfl, rfl⟩))
    have hBh : B ≤ wh.heap.size := by have := BH.out.size; rw [HB0.out] at this; exact this
    have bh : Below B w wh := by have := BH.out; rw [HB0.out] at this; exact this
    have T0 : Hid (Two B ((wh.alloc (.cells #[fL, .slice none 0 0, .int .i64 0] 90)).alloc (.cells #[fM, .slice none 0 0, .int .i64 0] 90)) wh.heap.size (wh.heap.size + 1) none none [] [] 0) := by
      refine Lib.hid ⟨(hs_new wh fL).keeps (N := fun _ => False) ((Keeps.refl _ _).alloc _) (fun h => h) (fun _ _ h => h), ?_, fun b hb => ?_, fun b hb => ?_, by omega, fun b hb => by cases hb⟩
      · have := hs_new (lt := ltM) (wh.alloc (.cells #[fL, .slice none 0 0, .int .i64 0] 90)) fM
        simpa using this
      · rcases hb with h | h
        · omega
        · cases h
      · rcases hb with h | h
        · omega
        · cases h
    have b0 : Hid (Below B w ((wh.alloc (.cells #[fL, .slice none 0 0, .int .i64 0] 90)).alloc (.cells #[fM, .slice none 0 0, .int .i64 0] 90))) := Lib.hid ((bh.alloc hBh _).alloc (by simp; omega) _)
    have HR := Lib.hid hR
    clear hR bh hBh BH
    generalize World.alloc (World.alloc _ _) _ = w1 at *
    obtain ⟨g2, hg2⟩ : ∃ g, wh.heap.size + 1 = g := ⟨_, rfl⟩
    rw [hg2] at T0 ⊢
    clear hg2
    generalize wh.heap.size = g1 at T0 ⊢
    go_loopw [23] (fun s wr => ∃ (k : Nat) (o1 o2 : Option Nat) (bag1 bag2 : List (Int × Int)), k ≤ zs.length ∧ s = .int .i64 k ∧ Hid (Two B wr g1 g2 o1 o2 bag1 bag2 k) ∧ Hid ((bag1.map Prod.fst).Perm (zs.take k)) ∧ Hid ((bag2.map Prod.fst).Perm (zs.take k)) ∧ Hid (Below B w wr)) (fun s _ => zs.length - (intOf s).toNat)
    case atStart => exact ⟨0, none, none, [], [], Nat.zero_le _, rfl, T0, Lib.hid (List.Perm.refl _), Lib.hid (List.Perm.refl _), b0⟩
    case round =>
      obtain ⟨k, o1, o2, bag1, bag2, hk, rfl, HT, HP1, HP2, HBe⟩ := hrel
      have L1 : Hid (bag1.length = k) := Lib.hid (by have := HP1.out.length_eq; simp at this; omega)
      have L2 : Hid (bag2.length = k) := Lib.hid (by have := HP2.out.length_eq; simp at this; omega)
      by_cases hlt : k < zs.length
      · obtain ⟨b, off, rfl, hb, hcell⟩ := (HR.out.belowB HB0.out HBe.out).at hlt
        have TP1 := Lib.hid (take_push' hlt HP1.out (k : Int))
        have TP2 := Lib.hid (take_push' hlt HP2.out (k : Int))
        generalize zs[k]?.getD 0 = z at *
        have hBr : Hid (B ≤ wr.heap.size) := Lib.hid (by have := HBe.out.size; rw [HB0.out] at this; exact this)
        go_wp2_with fail
        refine (hs_push ordL befL HT.out.h1 z (by rw [L1.out]; omega) (by omega) (by omega)).mono ?_
        rintro e w2 ⟨rfl, o1', hS1, hK1, hO1⟩
        have ap1 := hs_hs_apart HT.out.h1 HT.out.h2 HT.out.ne HT.out.no
        have T2 : Hid (HS ltM w2 g2 o2 fM bag2 k) := Lib.hid (HT.out.h2.keeps hK1 (fun e => ap1 _ e (.inl rfl)) (fun b hb e => ap1 _ e (.inr hb)))
        have S1 := Lib.hid hS1
        have O1 := Lib.hid hO1
        have B1 : Hid (Below B wr w2) := Lib.hid (hK1.below hBr.out HT.out.b1)
        clear hS1 hK1 hO1 ap1
        go_wp2_with fail
        refine (hs_push ordM befM T2.out z (by rw [L2.out]; omega) (by omega) (by omega)).mono ?_
        rintro e w3 ⟨rfl, o2', hS2, hK2, hO2⟩
        have hno : ∀ b, o1' = some b → o2 ≠ some b := fun b h1 h2 => by
          rcases O1.out b h1 with h | h
          · exact HT.out.no b h h2
          · have := HT.out.h2.lt.2 b h2; omega
        have hsz : wr.heap.size ≤ w2.heap.size := B1.out.size
        have ap2 := hs_hs_apart S1.out T2.out HT.out.ne hno
        have T3 : Hid (Two B w3 g1 g2 o1' o2' ((z, (k : Int)) :: bag1) ((z, (k : Int)) :: bag2) (k + 1)) := by
          refine Lib.hid ⟨S1.out.keeps hK2 (fun e => ap2 _ (.inl rfl) e) (fun b hb e => ap2 _ (.inr hb) e), hS2, ?_, ?_, HT.out.ne, ?_⟩
          · rintro b (h | h)
            · exact HT.out.b1 b (.inl h)
            · rcases O1.out b h with h | h
              · exact HT.out.b1 b (.inr h)
              · have := hBr.out; omega
          · rintro b (h | h)
            · exact HT.out.b2 b (.inl h)
            · rcases hO2 b h with h | h
              · exact HT.out.b2 b (.inr h)
              · have := hBr.out; omega
          · intro b h1 h2
            rcases hO2 b h2 with h | h
            · exact hno b h1 h
            · have := S1.out.lt.2 b h1; omega
        have B3 : Hid (Below B w w3) := Lib.hid ((HBe.out.trans B1.out).trans (hK2.below (Nat.le_trans hBr.out hsz) HT.out.b2))
        clear hS2 hK2 hO2 hno ap2 hsz
        go_wp2_with fail
        go_roundw
        case rel => exact ⟨k + 1, o1', o2', _, _, by omega, by go_num, Lib.hid (by have := T3.out; rw [show ((k + 1 : Nat) : Int) = (k : Int) + 1 by omega]; exact this), TP1, TP2, B3⟩
        case measure => simp [intOf]; omega
      · obtain rfl : k = zs.length := by omega
        have HV1 : Hid ((bag1.map Prod.fst).Perm zs) := Lib.hid (by have := HP1.out; rw [List.take_length] at this; exact this)
        have HV2 : Hid ((bag2.map Prod.fst).Perm zs) := Lib.hid (by have := HP2.out; rw [List.take_length] at this; exact this)
        obtain ⟨wm, rfl⟩ : ∃ x, x = wr := ⟨wr, rfl⟩
        clear HP1 HP2 T0 b0 hlt hk
        have hBm : B ≤ wm.heap.size := by have := HBe.out.size; rw [HB0.out] at this; exact this
        have M0 : Hid (Mid B w ((wm.alloc (.cells #[] 3)).alloc (.cells #[] 3)) g1 g2 zs 0 (.slice (some ⟨wm.heap.size, 0, none⟩) 0 0) (.slice (some ⟨wm.heap.size + 1, 0, none⟩) 0 0)) := by
          have r1 := World.ownsRow_lit (base := B) (e := 3) (size := 1) wm #[] 0 hBm (by decide) rfl
          have r2 := World.ownsRow_lit (base := B) (e := 3) (size := 1) (wm.alloc (.cells #[] 3)) #[] 0 (by simp; omega) (by decide) rfl
          have z2 : (wm.alloc (.cells #[] 3)).heap.size = wm.heap.size + 1 := by simp
          rw [z2] at r2
          refine Lib.hid ⟨o1, o2, bag1, bag2, [], [], HT.out.keeps (N := fun _ => False) (((Keeps.refl _ _).alloc _).alloc _) (fun _ h => h.elim), ⟨r1.alloc _, r2, fun b h1 h2 => ?_⟩, ⟨rfl, HV1.out⟩, ⟨rfl, HV2.out⟩, ⟨List.Pairwise.nil, fun x hx => by cases hx⟩, ⟨List.Pairwise.nil, fun x hx => by cases hx⟩, (HBe.out.alloc hBm _).alloc (by simp; omega) _⟩
          simp [Value.ownBlock] at h1 h2; omega
        clear HT HV1 HV2 HBe L1 L2 hBm
        go_wp2_with fail
        generalize World.alloc (World.alloc _ _) _ = w4 at *
        generalize Value.slice (some ⟨wm.heap.size, 0, none⟩) 0 0 = va0 at *
        generalize Value.slice (some ⟨wm.heap.size + 1, 0, none⟩) 0 0 = vb0 at *
        go_loopw [38, 7, 8] (fun s va vb wr => ∃ k : Nat, k ≤ zs.length ∧ s = .int .i64 k ∧ Hid (Mid B w wr g1 g2 zs k va vb)) (fun s _ _ _ => zs.length - (intOf s).toNat)
        case atStart => exact ⟨0, Nat.zero_le _, rfl, M0⟩
        case round =>
          obtain ⟨k, hk, rfl, HM⟩ := hrel
          obtain ⟨o1, o2, bag1, bag2, us, ds, hT, hW, hh1, hh2, ha, hd, hbe⟩ := HM.out
          clear M0 HM
          have HT := Lib.hid hT
          have HW := Lib.hid hW
          have H1 := Lib.hid hh1
          have H2 := Lib.hid hh2
          have HA := Lib.hid ha
          have HD := Lib.hid hd
          have HBe := Lib.hid hbe
          clear hT hW hh1 hh2 ha hd hbe
          have hBr : Hid (B ≤ wr.heap.size) := Lib.hid (by have := HBe.out.size; rw [HB0.out] at this; exact this)
          by_cases hlt : k < zs.length
          · have l1 : 0 < bag1.length ∧ bag1.length ≤ 1000000 := by have := H1.out.bag; omega
            have l2 : 0 < bag2.length ∧ bag2.length ≤ 1000000 := by have := H2.out.bag; omega
            go_wp2_with fail
            refine (hs_pop ordL befL HT.out.h1 l1.1 l1.2).mono ?_
            rintro e w5 ⟨⟨x1, x2⟩, bag1', rfl, hp, hl, hS, hK⟩
            have T5 := Lib.hid (HT.out.pop1 hS hK)
            have R5 := Lib.hid (HW.out.keeps hK (hs_row_apart HT.out.h1 HW.out.ra) (hs_row_apart HT.out.h1 HW.out.rb))
            have B5 := Lib.hid (hK.below hBr.out HT.out.b1)
            have A5 := Lib.hid (asc_step HA.out hp hl)
            have P5 := Lib.hid (H1.out.step hp)
            clear hp hl hS hK
            go_wp2_with fail
            refine (hs_pop ordM befM T5.out.h2 l2.1 l2.2).mono ?_
            rintro e w6 ⟨⟨y1, y2⟩, bag2', rfl, hp, hl, hS, hK⟩
            have hB5 : B ≤ w5.heap.size := Nat.le_trans hBr.out B5.out.size
            have T6 := Lib.hid (T5.out.pop2 hS hK)
            have R6 := Lib.hid (R5.out.keeps hK (hs_row_apart T5.out.h2 R5.out.ra) (hs_row_apart T5.out.h2 R5.out.rb))
            have B6 := Lib.hid (hK.below hB5 T5.out.b2)
            have A6 := Lib.hid (dsc_step HD.out hp hl)
            have P6 := Lib.hid (H2.out.step hp)
            have hB6 : B ≤ w6.heap.size := Nat.le_trans hB5 B6.out.size
            clear hp hl hS hK
            have lu : us.length ≤ 200 := by have := H1.out.len; omega
            have ld : ds.length ≤ 200 := by have := H2.out.len; omega
            go_wp2_with (first | (at_builtin; refine wpList_append_own_at _ rfl _ _ 57 rfl B 3 i0 (.int .i64 0) 1 8 Try.underlying57 I.out Z0.out Z1.out Z2.out rfl (by decide) _ _ _ rfl (R6.out.ra.alloc _) ⟨w6.heap.size, 0, none⟩ 1 1 [.int .i64 x1] rfl rfl ?c1 ?c2 ?c3 ?c4 ?c5 ?_))
            case c1 =>
              intro j u hj
              match j, hj with
              | 0, hj => simp at hj; subst hj; simp [Addr.add]
            case c2 => intro u hu; simp at hu; subst hu; rfl
            case c3 => unfold maxLen; omega
            case c4 => omega
            case c5 => simp; omega
            intro va' w7 hown' hgrow _ hat
            obtain ⟨t7, r7, b7⟩ := rows_app T6.out R6.out hB6 hown' hgrow hat
            have T7 := Lib.hid t7
            have R7 := Lib.hid r7
            have B7 := Lib.hid b7
            have hB7 : B ≤ w7.heap.size := Nat.le_trans hB6 b7.size
            clear t7 r7 b7 hown' hgrow hat
            go_wp2_with (first | (at_builtin; refine wpList_append_own_at _ rfl _ _ 57 rfl B 3 i0 (.int .i64 0) 1 8 Try.underlying57 I.out Z0.out Z1.out Z2.out rfl (by decide) _ _ _ rfl (R7.out.rb.alloc _) ⟨w7.heap.size, 0, none⟩ 1 1 [.int .i64 y1] rfl rfl ?e1 ?e2 ?e3 ?e4 ?e5 ?_))
            case e1 =>
              intro j u hj
              match j, hj with
              | 0, hj => simp at hj; subst hj; simp [Addr.add]
            case e2 => intro u hu; simp at hu; subst hu; rfl
            case e3 => unfold maxLen; omega
            case e4 => omega
            case e5 => simp; omega
            intro vb' w8 hown' hgrow _ hat
            obtain ⟨t8, r8, b8⟩ := rows_app T7.out R7.out.swap hB7 hown' hgrow hat
            have M8 : Hid (Mid B w w8 g1 g2 zs (k + 1) va' vb') := Lib.hid ⟨o1, o2, bag1', bag2', us ++ [x1], ds ++ [y1], t8, r8.swap, P5.out, P6.out, A5.out, A6.out, (((HBe.out.trans B5.out).trans B6.out).trans B7.out).trans b8⟩
            clear t8 r8 b8 hown' hgrow hat T7 R7 B7
            go_wp2_with fail
            go_roundw
            case rel => exact ⟨k + 1, by omega, by go_num, M8⟩
            case measure => simp [intOf]; omega
          · obtain rfl : k = zs.length := by omega
            have hb1 : bag1 = [] := List.eq_nil_of_length_eq_zero (by have := H1.out.bag; omega)
            have hb2 : bag2 = [] := List.eq_nil_of_length_eq_zero (by have := H2.out.bag; omega)
            subst hb1 hb2
            have G : Hid (∀ j, j < us.length → us[j]?.getD 0 = ds[ds.length - 1 - j]?.getD 0) := Lib.hid (fun j hj => great_at HA.out.1 HD.out.1 (by simpa using H1.out.perm) (by simpa using H2.out.perm) hj)
            obtain ⟨au, cu, rfl, hu⟩ := row_of_owns HW.out.ra
            obtain ⟨ad, cd, rfl, hd⟩ := row_of_owns HW.out.rb
            have HU := Lib.hid hu
            have HDd := Lib.hid hd
            have hul := H1.out.len
            have hdl := H2.out.len
            rw [hul, hdl]
            have UL := Lib.hid hul
            have DL := Lib.hid hdl
            clear hul hdl hu hd hlt hk
            have S1 := Lib.hid HT.out.h1
            have S2 := Lib.hid HT.out.h2
            obtain ⟨wm2, rfl⟩ : ∃ x, x = wr := ⟨wr, rfl⟩
            go_wp2_with fail
            go_loopw [67] (fun s wv => ∃ k : Nat, k ≤ zs.length ∧ s = .int .i64 k ∧ Hid (Below B w wv) ∧ Hid (Row wv au us) ∧ Hid (Row wv ad ds) ∧ Hid (HS ltL wv g1 o1 fL [] zs.length) ∧ Hid (HS ltM wv g2 o2 fM [] zs.length)) (fun s _ => zs.length - (intOf s).toNat)
            case atStart => exact ⟨0, Nat.zero_le _, rfl, HBe, HU, HDd, S1, S2⟩
            case round =>
              obtain ⟨k, hk, rfl, HBv, HUv, HDv, S1v, S2v⟩ := hrel
              by_cases hlt : k < zs.length
              · obtain ⟨b1, off1, rfl, hb1, hc1⟩ := HUv.out.at (k := k) (by rw [UL.out]; exact hlt)
                obtain ⟨b2, off2, rfl, hb2, hc2⟩ := HDv.out.at (k := zs.length - 1 - k) (by rw [DL.out]; omega)
                have hG := G.out k (by rw [UL.out]; exact hlt)
                rw [DL.out] at hG
                rw [← hG] at hc2
                clear hG
                generalize us[k]?.getD 0 = z at *
                obtain ⟨m, hm⟩ : ∃ m, zs.length - 1 - k = m := ⟨_, rfl⟩
                rw [hm] at hc2
                have q1 : (0 : Int) ≤ (zs.length : Int) - 1 - (k : Int) := by omega
                have q2 : (zs.length : Int) - 1 - (k : Int) < (zs.length : Int) := by omega
                have q3 : ((zs.length : Int) - 1 - (k : Int)).toNat = m := by omega
                have q4 : (k : Int) < (zs.length : Int) := by omega
                have q5 : (0 : Int) ≤ (k : Int) := by omega
                clear hm
                go_wp2_with fail
                go_quiet (fail)
                go_wp2_with fail
                go_roundw
                case rel => exact ⟨k + 1, by omega, by go_num, Lib.hid (below_drewN HBv.out _), Lib.hid (HUv.out.drewN _), Lib.hid (HDv.out.drewN _), Lib.hid (S1v.out.drewN _), Lib.hid (S2v.out.drewN _)⟩
                case measure => simp [intOf]; omega
              · obtain rfl : k = zs.length := by omega
                have lc1 := hs_len S1v.out 0 rfl
                have lc2 := hs_len S2v.out 0 rfl
                go_wp2_with (first | (go_at_call_of 38 (Value.pointer (some ⟨g1, 0, none⟩)); refine lc1.mono ?_; rintro e w6 ⟨rfl, rfl⟩) | (go_at_call_of 38 (Value.pointer (some ⟨g2, 0, none⟩)); refine lc2.mono ?_; rintro e w6 ⟨rfl, rfl⟩))
                go_ret
                exact ⟨rfl, by rw [HB0.out]; exact HBv.out⟩
end Go.Proofs.Ytkcpdkhdjgfigaa
