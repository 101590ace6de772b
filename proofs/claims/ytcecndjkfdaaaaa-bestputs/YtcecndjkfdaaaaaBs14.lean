/- best's Add. -/
import Derived.Test.YtcecndjkfdaaaaaBs13
import Derived.Test.YtcecndjkfdaaaaaRf2
import Derived.Test.YtcecndjkfdaaaaaAl
namespace Go.Proofs.Ytcecndjkfdaaaaa
open Go.RowKit Go.Shelf Go.Maps
attribute [local go_sem] Oper.semAt_some
set_option linter.unusedVariables false
set_option linter.unusedSimpArgs false

theorem bAll_calls (p : Option Addr) (w : World) : Calls Try.prog 55 #[.pointer p] w (fun e w' => e = .returned (.func (.func 68) #[] #[.pointer (some ⟨w.heap.size, 0, none⟩)]) ∧ w' = w.alloc (.cells #[.pointer p] 27)) := by
  go_enter Try.func55, Try.ntmps55
  go_wp2_with fail
  go_ret
  exact ⟨rfl, rfl⟩
/-- What goes through the rounds of Add. -/
structure AI (B : Nat) (w : World) (N0 : Nat → Prop) (g wd : Nat) (great : Bool) (es : List Ent) (p : Option Addr) (X : World) (N : Nat → Prop) (es' : List Ent) (ch : List Int) (cv : Value) : Prop where
  b : Bst N X g wd great es'
  low : ∀ k, N k → N0 k ∨ B + 5 ≤ k
  bb : Boxed X B 46 (.pointer (some ⟨g, 0, none⟩))
  bc : Boxed X (B + 1) 23 cv
  bs : Boxed X (B + 2) 27 (.pointer p)
  own : X.ownsRow (B + 5) 3 1 cv ch.length (ch.map (Value.int .i64))
  ownN : ∀ b, cv.ownBlock = some b → ¬ N b
  keeps : Keeps (fun k => N0 k ∨ B ≤ k) w X
  lt0 : ∀ k, N0 k → k < B
theorem AI.grown {B : Nat} {w : World} {N0 : Nat → Prop} {g wd : Nat} {great : Bool} {es : List Ent} {p : Option Addr} {X X' : World} {N : Nat → Prop} {es' : List Ent} {ch : List Int} {cv : Value} (h : AI B w N0 g wd great es p X N es' ch cv) (hg : X.grownBy X' (some (B + 4))) : AI B w N0 g wd great es p X' N es' ch cv := by
  have hk : Keeps (fun k => k = B + 4) X X' := Keeps.of_grown hg (fun k e => by cases e; rfl)
  refine ⟨h.b.keeps hk (fun k hN e => ?_), h.low, h.bb.kept hg (by simp), h.bc.kept hg (by simp), h.bs.kept hg (by simp), h.own.kept hg (.inr (fun e => ?_)), h.ownN, h.keeps.trans (Keeps.of_grown hg (fun k e => by cases e; exact .inr (by omega))), h.lt0⟩
  · rcases h.low k hN with h1 | h1
    · have := h.lt0 k h1; omega
    · omega
  · have := (h.own.lt _ e).1; omega
theorem boxed_keeps {N : Nat → Prop} {W W' : World} {b : Nat} {t : TypeId} {v : Value} (h : Boxed W b t v) (hk : Keeps N W W') (hn : ¬ N b) : Boxed W' b t v := (hk.block b h.lt hn).trans h
theorem AI.put {B : Nat} {w : World} {N0 : Nat → Prop} {g wd : Nat} {great : Bool} {es : List Ent} {p : Option Addr} {X Wd V : World} {N : Nat → Prop} {es' es2 : List Ent} {ch : List Int} {cv : Value} (h : AI B w N0 g wd great es p X N es' ch cv) (hsz : B + 5 ≤ X.heap.size) (hbd : Below X.heap.size X Wd) (hb : Bst (NN N Wd.heap.size V.heap.size) V g wd great es2) (hk : Keeps N Wd V) :
    AI B w N0 g wd great es p V (NN N Wd.heap.size V.heap.size) es2 ch cv ∧ V.heap[B + 3]? = X.heap[B + 3]? ∧ V.heap[B + 4]? = X.heap[B + 4]? ∧ B + 5 ≤ V.heap.size := by
  have kX : Keeps N X V := (Keeps.of_below hbd).trans hk
  have no : ∀ k, B ≤ k → k < B + 5 → ¬ N k := fun k h1 h2 hN => by
    rcases h.low k hN with h3 | h3
    · have := h.lt0 k h3; omega
    · omega
  refine ⟨⟨hb, fun k hk => ?_, boxed_keeps h.bb kX (no B (by omega) (by omega)), boxed_keeps h.bc kX (no _ (by omega) (by omega)), boxed_keeps h.bs kX (no _ (by omega) (by omega)), owns_keeps h.own kX (fun b hb => h.ownN b hb), fun b hb hn => ?_, h.keeps.trans (kX.mono (fun k _ hN => ?_)), h.lt0⟩, kX.block _ (by omega) (no _ (by omega) (by omega)), kX.block _ (by omega) (no _ (by omega) (by omega)), Nat.le_trans hsz kX.size⟩
  · rcases hk with hk | hk
    · exact h.low k hk
    · have := hbd.size; exact .inr (by omega)
  · rcases hn with hn | hn
    · exact h.ownN b hb hn
    · have h1 := (h.own.lt b hb).2; have h2 := hbd.size; omega
  · rcases h.low k hN with h3 | h3
    · exact .inl h3
    · exact .inr (by omega)
theorem AI.push {B : Nat} {w : World} {N0 : Nat → Prop} {g wd : Nat} {great : Bool} {es : List Ent} {p : Option Addr} {V w1 : World} {N : Nat → Prop} {es' : List Ent} {ch : List Int} {cv cv' : Value} {iv : Int} {o : Obj} (h : AI B w N0 g wd great es p V N es' ch cv) (hsz : B + 5 ≤ V.heap.size)
    (hown : w1.ownsRow (B + 5) 3 1 cv' (ch.length + 1) (ch.map (Value.int .i64) ++ [.int .i64 iv])) (hgrow : (V.alloc o).grownBy w1 cv.ownBlock) (hat : cv'.ownBlock = cv.ownBlock ∨ cv'.ownBlock = some (V.heap.size + 1)) :
    Boxed w1 (B + 1) 23 cv ∧ AI B w N0 g wd great es p (w1.setCell ⟨B + 1, 0, none⟩ cv') N es' (ch ++ [iv]) cv' ∧ (w1.setCell ⟨B + 1, 0, none⟩ cv').heap[B + 3]? = V.heap[B + 3]? ∧ (w1.setCell ⟨B + 1, 0, none⟩ cv').heap[B + 4]? = V.heap[B + 4]? := by
  have no : ∀ k, B ≤ k → k < B + 5 → ¬ N k := fun k h1 h2 hN => by
    rcases h.low k hN with h3 | h3
    · have := h.lt0 k h3; omega
    · omega
  have cb : ∀ k, cv.ownBlock = some k → B + 5 ≤ k := fun k hk => (h.own.lt k hk).1
  have k1 : Keeps (fun k => cv.ownBlock = some k ∨ k = B + 1) V w1 := ((Keeps.refl _ V).alloc o).trans (Keeps.of_grown hgrow (fun b hb => .inl hb))
  have k2 : Keeps (fun k => cv.ownBlock = some k ∨ k = B + 1) V (w1.setCell ⟨B + 1, 0, none⟩ cv') := k1.setCell (p := ⟨B + 1, 0, none⟩) (.inr rfl) cv'
  have not : ∀ k, k < B + 5 → k ≠ B + 1 → ¬ (cv.ownBlock = some k ∨ k = B + 1) := fun k h1 h2 h3 => by
    rcases h3 with h3 | h3
    · have := cb k h3; omega
    · exact h2 h3
  have b1 : Boxed w1 (B + 1) 23 cv := by
    refine (h.bc.alloc o).kept hgrow (fun e => ?_)
    have := cb (B + 1) e.symm; omega
  refine ⟨b1, ⟨h.b.keeps k2 (fun k hN hM => ?_), h.low, boxed_keeps h.bb k2 (not _ (by omega) (by omega)), b1.set cv', boxed_keeps h.bs k2 (not _ (by omega) (by omega)), ?_, fun b hb hN => ?_, h.keeps.trans (k2.mono (fun k _ hM => ?_)), h.lt0⟩, k2.block _ (by omega) (not _ (by omega) (by omega)), k2.block _ (by omega) (not _ (by omega) (by omega))⟩
  · rcases hM with hM | hM
    · exact h.ownN k hM hN
    · subst hM; exact no _ (by omega) (by omega) hN
  · rw [List.length_append, List.map_append]
    refine hown.kept (grownBy_setCell' w1 (B + 1) cv') (.inr (fun e => ?_))
    have := (hown.lt _ e).1; omega
  · rcases hat with e | e
    · exact h.ownN b (e ▸ hb) hN
    · rw [e] at hb; cases hb; have := h.b.lt _ hN; omega
  · rcases hM with hM | hM
    · have := cb k hM; exact .inr (by omega)
    · exact .inr (by omega)
def AddRet2 (N0 : Nat → Prop) (g wd : Nat) (great : Bool) (es : List Ent) (rs : List (List Int)) (w : World) (e : Ending) (w' : World) : Prop :=
  ∃ p' L N', e = .returned (.pointer p') ∧ w.heap.size ≤ L ∧ L ≤ w'.heap.size ∧ (∀ W, Later L w' W → Seg W p' (wd + 1) (relOf ((wd + 1 : Nat) : Int) ((news es (putsTo great wd es rs rs.length)).map rowE))) ∧ Bst N' w' g wd great (putsTo great wd es rs rs.length) ∧ (∀ k, N' k → (N0 k ∨ w.heap.size ≤ k) ∧ k < L) ∧ Keeps N0 w w'
theorem row_take {w : World} {a : Option Addr} {zs : List Int} (h : Row w a zs) (k : Nat) : Row w a (zs.take k) := by
  rcases h with rfl | ⟨b, off, rfl, hlt, hc⟩
  · rw [List.take_nil]; exact .inl rfl
  · refine .inr ⟨b, off, rfl, hlt, fun i hi => ?_⟩
    have h1 : i < zs.length := by simp at hi; omega
    have h2 : i < k := by simp at hi; omega
    rw [hc i h1, List.getElem?_take_of_lt h2]
set_option maxRecDepth 100000 in
set_option maxHeartbeats 4000000 in
theorem badd_calls {N0 : Nat → Prop} {w : World} {g wd : Nat} {great : Bool} {es : List Ent} (h : Bst N0 w g wd great es) {p : Option Addr} {rs : List (List Int)} (hSL : ∀ W, Keeps (fun k => N0 k ∨ w.heap.size ≤ k) w W → Seg W p (wd + 1) rs) (hrg : ∀ r ∈ rs, InRange (r.take wd)) (hwd : wd ≤ 100) (hrs : rs.length ≤ 1000) (hel : es.length + rs.length ≤ 1000) :
    Calls Try.prog 36 #[.pointer (some ⟨g, 0, none⟩), .pointer p] w (AddRet2 N0 g wd great es rs w) := by
  obtain ⟨B, hB⟩ : ∃ B, w.heap.size = B := ⟨_, rfl⟩
  have HB := Lib.hid hB
  have HS : Hid (∀ W, Keeps (fun k => N0 k ∨ B ≤ k) w W → Seg W p (wd + 1) rs) := Lib.hid (by rw [← hB]; exact hSL)
  have HRG := Lib.hid hrg
  have H0 := Lib.hid h
  have LT0 : Hid (∀ k, N0 k → k < B) := Lib.hid (fun k hk => by rw [← hB]; exact h.lt k hk)
  obtain ⟨i0, hi0, hz0, hz1, hz2⟩ := info_parts info3
  have I := Lib.hid hi0
  have Z0 := Lib.hid hz0
  have Z1 := Lib.hid hz1
  have Z2 := Lib.hid hz2
  obtain ⟨i1, hj0, hy0, hy1, hy2⟩ := info_parts info23
  have J := Lib.hid hj0
  have Y0 := Lib.hid hy0
  have Y1 := Lib.hid hy1
  have Y2 := Lib.hid hy2
  clear hB hSL hrg h hi0 hz0 hz1 hz2 hj0 hy0 hy1 hy2
  refine callsIn_wide.1 (callsIn_of_wp_marks (n := 9) Try.func36 rfl trivial (wpIn_wide.2 ?_) rfl)
  simp only [Try.ntmps36, List.size_toArray, List.length_cons, List.length_nil, Nat.reduceAdd, Nat.reduceSub, Array.replicate_succ, Array.replicate_zero, List.push_toArray, List.append_toArray, List.nil_append, List.cons_append]
  go_wp2_with fail
  have X0 := Lib.hid (((Boxed.new w 46 (.pointer (some ⟨g, 0, none⟩))).alloc (.cells #[.slice none 0 0] 23)).alloc (.cells #[.pointer p] 27))
  have X1 := Lib.hid ((Boxed.new (w.alloc (.cells #[.pointer (some ⟨g, 0, none⟩)] 46)) 23 (.slice none 0 0)).alloc (.cells #[.pointer p] 27))
  have X2 := Lib.hid (Boxed.new ((w.alloc (.cells #[.pointer (some ⟨g, 0, none⟩)] 46)).alloc (.cells #[.slice none 0 0] 23)) 27 (.pointer p))
  have BL : Hid (Below B w (((w.alloc (.cells #[.pointer (some ⟨g, 0, none⟩)] 46)).alloc (.cells #[.slice none 0 0] 23)).alloc (.cells #[.pointer p] 27))) := Lib.hid ((((Below.refl _ _).alloc (by rw [HB.out]; omega) _).alloc (by simp; rw [HB.out]; omega) _).alloc (by simp; rw [HB.out]; omega) _)
  have SZ : Hid ((((w.alloc (.cells #[.pointer (some ⟨g, 0, none⟩)] 46)).alloc (.cells #[.slice none 0 0] 23)).alloc (.cells #[.pointer p] 27)).heap.size = B + 3) := Lib.hid (by simp [HB.out])
  refine (bAll_calls p _).mono ?_
  rintro e w' ⟨rfl, rfl⟩
  have E1 : Hid ((w.alloc (.cells #[.pointer (some ⟨g, 0, none⟩)] 46)).heap.size = B + 1) := Lib.hid (by simp [HB.out])
  have E2 : Hid (((w.alloc (.cells #[.pointer (some ⟨g, 0, none⟩)] 46)).alloc (.cells #[.slice none 0 0] 23)).heap.size = B + 1 + 1) := Lib.hid (by simp [HB.out])
  rw [HB.out] at X0
  rw [E1.out] at X1
  rw [E2.out] at X2
  go_wp2_with fail
  rw [HB.out]
  clear E1 E2
  generalize World.alloc (World.alloc (World.alloc w _) _) _ = W0 at *
  refine (wpIn_wide (n := 9)).1 ?_
  refine range_loop2 (α := RV) (gf := 68) (lb := #[.pointer (some ⟨B + 1 + 1, 0, none⟩)]) rfl (enters_of Try.func68 (by kernel_rfl) rfl) (encs := fun x => #[encV x]) (fun _ => rfl) (RX rs) (fun pre X => ∃ N es' ch cv, AI B w N0 g wd great es p X N es' ch cv ∧ es' = putsTo great wd es rs pre.length ∧ ch.length ≤ pre.length ∧ pre.length ≤ rs.length ∧ Chg great es es' ch) (fun xs => xs.length = rs.length)
    ?hI ?hR ?h0 ?hiter (fun x => { tmps := #[.pointer (some ⟨g, 0, none⟩), .pointer p, .pointer (some ⟨B, 0, none⟩), undef, .pointer none, .pointer (some ⟨B + 1, 0, none⟩), encV x, undef, undef, undef, undef, undef, undef, .pointer p, .func (.func 68) #[] #[.pointer (some ⟨B + 1 + 1, 0, none⟩)], encV x, undef, undef, undef, undef, undef, undef, undef, undef, undef, undef, undef, undef, undef, undef, undef, undef, undef, undef, undef, undef, undef, undef, undef, undef, undef, undef, undef, undef, undef, undef, undef, undef, undef, undef, undef, undef, undef, undef, undef, undef, undef, undef, undef, undef, undef, undef, undef, undef, undef], defers := [] }) ?hassign ?hbody ?hdone
  case hI =>
    rintro pre X X' ⟨N, es', ch, cv, h1, h2, h3⟩ hk
    rw [SZ.out] at hk
    exact ⟨N, es', ch, cv, h1.grown hk, h2, h3⟩
  case hR =>
    rintro pre x X X' L ⟨h1, h2, h3, h4⟩ hL hk
    exact ⟨h1, h2.loop hL hk, h3, h4⟩
  case h0 =>
    refine ⟨N0, es, [], .slice none 0 0, ⟨H0.out.below (by rw [HB.out]; exact BL.out), fun k hk => .inl hk, X0.out, X1.out, X2.out, World.ownsRow_nil _ _ _ _, (fun b hb => by simp [Value.ownBlock] at hb), Keeps.of_below (by rw [HB.out]; exact BL.out), LT0.out⟩, rfl, Nat.le_refl _, Nat.zero_le _, Chg.start great H0.out.ok.dist⟩
  case hiter =>
    intro l J X hJI hJb hY hJ0
    exact all1_in _ l (B + 2) p (wd + 1) rs J (by omega) hrs (fun pre X h => by obtain ⟨N, es', ch, cv, h1, _⟩ := hJI _ _ h; exact ⟨h1.bs.cell, HS.out X h1.keeps⟩) hJb hY X hJ0
  case hassign => intro l x X K hK; gi_wp2; exact hK
  case hbody =>
    rintro l pre x X hsz ⟨N, es', ch, cv, hA, hes, hchl, hprl, hch⟩ ⟨hx1, hx2, hx3, hpre⟩
    obtain ⟨xa, xz, xc⟩ := x
    simp only at hx1 hx2 hx3
    have hxl : xz.length = wd + 1 := by rw [hx1]; exact (HS.out X hA.keeps).2.1 _ (rowAt_mem hpre)
    have hxr : InRange (xz.take wd) := by rw [hx1]; exact HRG.out _ (rowAt_mem hpre)
    have PS : Hid (putsTo great wd es rs (pre.length + 1) = putE great es' (xz.take wd) (xz[wd]?.getD 0)) := Lib.hid (by rw [putsTo_succ hpre, ← hes, hx1])
    obtain ⟨rb, ro, hra, hrl, hrc⟩ := hx2.at (k := wd) (by omega)
    subst hra
    have hkl : (xz.take wd).length = wd := by simp; omega
    have hkr := hxr
    have hkey : Row X (some ⟨rb, ro, none⟩) (xz.take wd) := row_take hx2 wd
    have hesl : es'.length ≤ 1000 := by rw [hes]; have := putsTo_len great wd es rs pre.length; omega
    have bd : Below X.heap.size X X.drew := below_drewN (Below.refl _ X) 1
    generalize xz[wd]?.getD 0 = cost at *
    have cp := bsput_calls (hA.b.below bd) (some ⟨rb, ro, none⟩) xc (xz.take wd) cost (hkey.below bd) hkl hkr hwd (by omega)
    rw [hkl] at cp
    have c0 := hA.bb.cell
    have q1 : (wd : Int) ≤ (xc : Int) := by omega
    have q2 : ¬ xc = 0 := by omega
    have q3 : (wd : Int) < ((wd + 1 : Nat) : Int) := by omega
    have q4 : (0 : Int) ≤ (wd : Int) := by omega
    have q7 : (wd : Int) < (wd : Int) + 1 := by omega
    have q5 : wd < wd + 1 := by omega
    have q6 : decide ((wd : Int) < 0) = false := decide_eq_false (by omega)
    obtain ⟨pb, hpb⟩ : ∃ pb, putB great es' (xz.take wd) cost = pb := ⟨_, rfl⟩
    have HA := Lib.hid hA
    have HSZ : Hid (B + 5 ≤ X.heap.size) := Lib.hid (by rw [SZ.out] at hsz; exact hsz)
    have HCH := Lib.hid hch
    have HES := Lib.hid hes
    have HCL := Lib.hid hchl
    have HPL := Lib.hid hpre
    have HX := Lib.hid hxl
    have BD := Lib.hid bd
    dsimp only [encV]
    rw [hxl]
    clear hA hsz hes hchl hprl hch hx1 hx2 hx3 hpre hxl hxr hkr hkey bd hrl hkl
    generalize xz.take wd = key1 at *
    have HPB := Lib.hid hpb
    refine wpIn_block ?_
    gi_wp2
    refine wpIn_region_any (by kernel_rfl) (anyIn_of_any l _ ?hnd ?hlo _ _ _ _ ?_)
    case hnd => intro i o h c; have hm := Array.mem_of_getElem? h; simp only [List.mem_toArray, List.mem_cons, List.not_mem_nil, or_false] at hm; rcases hm with rfl | rfl | rfl | rfl | rfl | rfl | rfl | rfl | rfl | rfl | rfl | rfl | rfl | rfl <;> simp
    case hlo => rintro ⟨a9, w9, h9⟩; simp (config := { zetaDelta := true }) [Exit.then, Exit.inBlock, goesOn2] at h9
    change wpAny _ _ _ _ _ _ _ X.drew
    have d0 : X.drew.cell? ⟨B, 0, none⟩ = some (.pointer (some ⟨g, 0, none⟩)) := c0
    have d1 : X.drew.cell? ⟨rb, ro + wd, none⟩ = some (.int .i64 cost) := hrc
    clear c0 hrc
    generalize X.drew = Wd at *
    refine wpAny_take (i := 1) (oi := ⟨some 23, _, _, _, _, _⟩) (v := .slice (some ⟨rb, ro, none⟩) (wd + 1) xc) rfl (by kernel_rfl) (by kernel_rfl) (by kernel_rfl) (fun _ _ _ h => h) (Or.inl ⟨by rfl, fun w => by go_simp⟩) ?_
    try simp only [Act.put, List.setIfInBounds_toArray, List.set_cons_zero, List.set_cons_succ]
    refine wpAny_take (i := 2) (oi := ⟨some 24, _, _, _, _, _⟩) (v := .int .i64 wd) rfl (by kernel_rfl) (by kernel_rfl) (by kernel_rfl) (fun _ _ _ h => h) (Or.inl ⟨by rfl, fun w => by go_simp⟩) ?_
    try simp only [Act.put, List.setIfInBounds_toArray, List.set_cons_zero, List.set_cons_succ]
    refine wpAny_take (i := 3) (oi := ⟨some 25, _, _, _, _, _⟩) (v := .slice (some ⟨rb, ro, none⟩) wd xc) rfl (by kernel_rfl) (by kernel_rfl) (by kernel_rfl) (fun _ _ _ h => h) (Or.inl ⟨by rfl, fun w => by go_simp⟩) ?_
    try simp only [Act.put, List.setIfInBounds_toArray, List.set_cons_zero, List.set_cons_succ]
    refine wpAny_take (i := 4) (oi := ⟨some 26, _, _, _, _, _⟩) (v := .slice (some ⟨rb, ro, none⟩) (wd + 1) xc) rfl (by kernel_rfl) (by kernel_rfl) (by kernel_rfl) (fun _ _ _ h => h) (Or.inl ⟨by rfl, fun w => by go_simp⟩) ?_
    try simp only [Act.put, List.setIfInBounds_toArray, List.set_cons_zero, List.set_cons_succ]
    refine wpAny_take (i := 5) (oi := ⟨some 27, _, _, _, _, _⟩) (v := .int .i64 wd) rfl (by kernel_rfl) (by kernel_rfl) (by kernel_rfl) (fun _ _ _ h => h) (Or.inl ⟨by rfl, fun w => by go_simp⟩) ?_
    try simp only [Act.put, List.setIfInBounds_toArray, List.set_cons_zero, List.set_cons_succ]
    refine wpAny_take (i := 6) (oi := ⟨some 28, _, _, _, _, _⟩) (v := .pointer (some ⟨rb, ro + wd, none⟩)) rfl (by kernel_rfl) (by kernel_rfl) (by kernel_rfl) (fun _ _ _ h => h) (Or.inl ⟨by rfl, fun w => by go_simp⟩) ?_
    try simp only [Act.put, List.setIfInBounds_toArray, List.set_cons_zero, List.set_cons_succ]
    refine wpAny_ready (rs := [0, 7]) (by kernel_rfl) (by simp) ?_
    refine AllReady.cons (o := ⟨some 22, _, _, _, _, _⟩) rfl (fun K hK => ?_) ?_
    · go_simp
      refine hK _ _ ?_
      clear hK K
      try simp only [Act.put, List.setIfInBounds_toArray, List.set_cons_zero, List.set_cons_succ]
      refine wpAny_ready (rs := [7]) (by kernel_rfl) (by simp) ?_
      refine AllReady.cons (o := ⟨some 29, _, _, _, _, _⟩) rfl (fun K hK => ?_) ?_
      · go_simp
        refine hK _ _ ?_
        clear hK K
        try simp only [Act.put, List.setIfInBounds_toArray, List.set_cons_zero, List.set_cons_succ]
        refine wpAny_ready (rs := [8]) (by kernel_rfl) (by simp) ?_
        refine AllReady.cons (o := ⟨some 30, _, _, _, _, _⟩) rfl (fun K hK => ?_) ?_
        · go_simp
          refine cp.mono ?_
          rintro e V ⟨iv, rfl, hsp, hbV, hkV⟩
          have SP := Lib.hid hsp
          have BV := Lib.hid hbV
          have KV := Lib.hid hkV
          refine hK _ _ ?_
          clear hK K hsp hbV hkV cp d0 d1
          rw [hpb] at SP
          rw [hpb]
          try simp only [Act.put, List.setIfInBounds_toArray, List.set_cons_zero, List.set_cons_succ]
          refine wpAny_take (i := 9) (oi := ⟨some 21, _, _, _, _, _⟩) (v := .tuple #[.int .i64 iv, .bool pb]) rfl (by kernel_rfl) (by kernel_rfl) (by kernel_rfl) (fun _ _ _ h => h) (Or.inl ⟨by rfl, fun w => by go_simp⟩) ?_
          try simp only [Act.put, List.setIfInBounds_toArray, List.set_cons_zero, List.set_cons_succ]
          refine wpAny_take (i := 10) (oi := ⟨some 31, _, _, _, _, _⟩) (v := .int .i64 iv) rfl (by kernel_rfl) (by kernel_rfl) (by kernel_rfl) (fun _ _ _ h => h) (Or.inl ⟨by rfl, fun w => by go_simp⟩) ?_
          try simp only [Act.put, List.setIfInBounds_toArray, List.set_cons_zero, List.set_cons_succ]
          refine wpAny_take (i := 11) (oi := ⟨some 32, _, _, _, _, _⟩) (v := .bool pb) rfl (by kernel_rfl) (by kernel_rfl) (by kernel_rfl) (fun _ _ _ h => h) (Or.inl ⟨by rfl, fun w => by go_simp⟩) ?_
          try simp only [Act.put, List.setIfInBounds_toArray, List.set_cons_zero, List.set_cons_succ]
          refine wpAny_take (i := 12) (oi := ⟨some 8, _, _, _, _, _⟩) (v := .int .i64 iv) rfl (by kernel_rfl) (by kernel_rfl) (by kernel_rfl) (fun _ _ _ h => h) (Or.inl ⟨by rfl, fun w => by go_simp⟩) ?_
          try simp only [Act.put, List.setIfInBounds_toArray, List.set_cons_zero, List.set_cons_succ]
          refine wpAny_take (i := 13) (oi := ⟨some 9, _, _, _, _, _⟩) (v := .bool pb) rfl (by kernel_rfl) (by kernel_rfl) (by kernel_rfl) (fun _ _ _ h => h) (Or.inl ⟨by rfl, fun w => by go_simp⟩) ?_
          try simp only [Act.put, List.setIfInBounds_toArray, List.set_cons_zero, List.set_cons_succ]
          refine wpAny_done (by kernel_rfl) ?_ _
          obtain ⟨A2, r3, r4, s5⟩ := HA.out.put HSZ.out BD.out BV.out KV.out
          have AA := Lib.hid A2
          have R34 := Lib.hid (And.intro r3 r4)
          have S5 := Lib.hid s5
          have c1 := A2.bc.cell
          clear A2 r3 r4 s5
          cases pb
          · gi_wp2
            have e9 := put_false HPB.out
            exact ⟨rfl, by rw [SZ.out]; exact R34.out.1, by rw [SZ.out]; exact R34.out.2, _, _, _, _, AA.out, by rw [List.length_append]; exact PS.out.symm, by rw [List.length_append]; have := HCL.out; omega, by rw [List.length_append]; have := HPL.out; simp; omega, by rw [e9]; exact HCH.out⟩
          · obtain ⟨ca, cc, hcv⟩ := row_form AA.out.own
            subst hcv
            have OW := Lib.hid AA.out.own
            have hchl : ch.length ≤ 1000 := by have := HCL.out; have := HPL.out; omega
            gi_wp2_with (first | (gi_at_builtin; refine listIn_of_list l _ (by rintro ⟨a9, w9, h9⟩; simp (config := { zetaDelta := true }) [Exit.then, Exit.inBlock, goesOn2] at h9) _ (by intro o ho c; simp only [List.mem_cons, List.not_mem_nil, or_false] at ho; rcases ho with rfl | rfl <;> simp) _ _ ?_; refine wpList_append_own_at _ rfl _ _ 23 rfl (B + 5) 3 i0 (.int .i64 0) 1 8 Try.underlying23 I.out Z0.out Z1.out Z2.out rfl (by decide) _ _ _ rfl (OW.out.alloc _) ⟨V.heap.size, 0, none⟩ 1 1 [.int .i64 iv] rfl rfl ?au1 ?au2 ?au3 ?au4 ?au5 ?_))
            case au2 => first | rfl | (intro u hu; simp at hu; subst hu; rfl)
            case au3 => unfold maxLen; omega
            case au4 => have := S5.out; omega
            case au5 => have h8 := S5.out; first | omega | (simp; omega)
            intro v' w1 hown' hgrow _ hat
            obtain ⟨a', cap', rfl⟩ := row_form hown'
            obtain ⟨b1, A3, r3, r4⟩ := AA.out.push S5.out hown' hgrow (by simpa using hat)
            have c2 := b1.cell
            have f2 := b1.frozen
            have AB := Lib.hid A3
            have R56 := Lib.hid (And.intro r3 r4)
            clear hown' hgrow hat b1 A3 r3 r4 c1
            go_wp2_with fail
            have hiv := SP.out (by simp)
            subst hiv
            exact ⟨rfl, by rw [SZ.out]; exact R56.out.1.trans R34.out.1, by rw [SZ.out]; exact R56.out.2.trans R34.out.2, _, _, _, _, AB.out, by rw [List.length_append]; exact PS.out.symm, by rw [List.length_append, List.length_append]; have := HCL.out; simp; omega, by rw [List.length_append]; have := HPL.out; simp; omega, HCH.out.put HPB.out⟩
        exact AllReady.nil
      exact AllReady.nil
    refine AllReady.cons (o := ⟨some 29, _, _, _, _, _⟩) rfl (fun K hK => ?_) ?_
    · go_simp
      refine hK _ _ ?_
      clear hK K
      try simp only [Act.put, List.setIfInBounds_toArray, List.set_cons_zero, List.set_cons_succ]
      refine wpAny_ready (rs := [0]) (by kernel_rfl) (by simp) ?_
      refine AllReady.cons (o := ⟨some 22, _, _, _, _, _⟩) rfl (fun K hK => ?_) ?_
      · go_simp
        refine hK _ _ ?_
        clear hK K
        try simp only [Act.put, List.setIfInBounds_toArray, List.set_cons_zero, List.set_cons_succ]
        refine wpAny_ready (rs := [8]) (by kernel_rfl) (by simp) ?_
        refine AllReady.cons (o := ⟨some 30, _, _, _, _, _⟩) rfl (fun K hK => ?_) ?_
        · go_simp
          refine cp.mono ?_
          rintro e V ⟨iv, rfl, hsp, hbV, hkV⟩
          have SP := Lib.hid hsp
          have BV := Lib.hid hbV
          have KV := Lib.hid hkV
          refine hK _ _ ?_
          clear hK K hsp hbV hkV cp d0 d1
          rw [hpb] at SP
          rw [hpb]
          try simp only [Act.put, List.setIfInBounds_toArray, List.set_cons_zero, List.set_cons_succ]
          refine wpAny_take (i := 9) (oi := ⟨some 21, _, _, _, _, _⟩) (v := .tuple #[.int .i64 iv, .bool pb]) rfl (by kernel_rfl) (by kernel_rfl) (by kernel_rfl) (fun _ _ _ h => h) (Or.inl ⟨by rfl, fun w => by go_simp⟩) ?_
          try simp only [Act.put, List.setIfInBounds_toArray, List.set_cons_zero, List.set_cons_succ]
          refine wpAny_take (i := 10) (oi := ⟨some 31, _, _, _, _, _⟩) (v := .int .i64 iv) rfl (by kernel_rfl) (by kernel_rfl) (by kernel_rfl) (fun _ _ _ h => h) (Or.inl ⟨by rfl, fun w => by go_simp⟩) ?_
          try simp only [Act.put, List.setIfInBounds_toArray, List.set_cons_zero, List.set_cons_succ]
          refine wpAny_take (i := 11) (oi := ⟨some 32, _, _, _, _, _⟩) (v := .bool pb) rfl (by kernel_rfl) (by kernel_rfl) (by kernel_rfl) (fun _ _ _ h => h) (Or.inl ⟨by rfl, fun w => by go_simp⟩) ?_
          try simp only [Act.put, List.setIfInBounds_toArray, List.set_cons_zero, List.set_cons_succ]
          refine wpAny_take (i := 12) (oi := ⟨some 8, _, _, _, _, _⟩) (v := .int .i64 iv) rfl (by kernel_rfl) (by kernel_rfl) (by kernel_rfl) (fun _ _ _ h => h) (Or.inl ⟨by rfl, fun w => by go_simp⟩) ?_
          try simp only [Act.put, List.setIfInBounds_toArray, List.set_cons_zero, List.set_cons_succ]
          refine wpAny_take (i := 13) (oi := ⟨some 9, _, _, _, _, _⟩) (v := .bool pb) rfl (by kernel_rfl) (by kernel_rfl) (by kernel_rfl) (fun _ _ _ h => h) (Or.inl ⟨by rfl, fun w => by go_simp⟩) ?_
          try simp only [Act.put, List.setIfInBounds_toArray, List.set_cons_zero, List.set_cons_succ]
          refine wpAny_done (by kernel_rfl) ?_ _
          obtain ⟨A2, r3, r4, s5⟩ := HA.out.put HSZ.out BD.out BV.out KV.out
          have AA := Lib.hid A2
          have R34 := Lib.hid (And.intro r3 r4)
          have S5 := Lib.hid s5
          have c1 := A2.bc.cell
          clear A2 r3 r4 s5
          cases pb
          · gi_wp2
            have e9 := put_false HPB.out
            exact ⟨rfl, by rw [SZ.out]; exact R34.out.1, by rw [SZ.out]; exact R34.out.2, _, _, _, _, AA.out, by rw [List.length_append]; exact PS.out.symm, by rw [List.length_append]; have := HCL.out; omega, by rw [List.length_append]; have := HPL.out; simp; omega, by rw [e9]; exact HCH.out⟩
          · obtain ⟨ca, cc, hcv⟩ := row_form AA.out.own
            subst hcv
            have OW := Lib.hid AA.out.own
            have hchl : ch.length ≤ 1000 := by have := HCL.out; have := HPL.out; omega
            gi_wp2_with (first | (gi_at_builtin; refine listIn_of_list l _ (by rintro ⟨a9, w9, h9⟩; simp (config := { zetaDelta := true }) [Exit.then, Exit.inBlock, goesOn2] at h9) _ (by intro o ho c; simp only [List.mem_cons, List.not_mem_nil, or_false] at ho; rcases ho with rfl | rfl <;> simp) _ _ ?_; refine wpList_append_own_at _ rfl _ _ 23 rfl (B + 5) 3 i0 (.int .i64 0) 1 8 Try.underlying23 I.out Z0.out Z1.out Z2.out rfl (by decide) _ _ _ rfl (OW.out.alloc _) ⟨V.heap.size, 0, none⟩ 1 1 [.int .i64 iv] rfl rfl ?av1 ?av2 ?av3 ?av4 ?av5 ?_))
            case av2 => first | rfl | (intro u hu; simp at hu; subst hu; rfl)
            case av3 => unfold maxLen; omega
            case av4 => have := S5.out; omega
            case av5 => have h8 := S5.out; first | omega | (simp; omega)
            intro v' w1 hown' hgrow _ hat
            obtain ⟨a', cap', rfl⟩ := row_form hown'
            obtain ⟨b1, A3, r3, r4⟩ := AA.out.push S5.out hown' hgrow (by simpa using hat)
            have c2 := b1.cell
            have f2 := b1.frozen
            have AB := Lib.hid A3
            have R56 := Lib.hid (And.intro r3 r4)
            clear hown' hgrow hat b1 A3 r3 r4 c1
            go_wp2_with fail
            have hiv := SP.out (by simp)
            subst hiv
            exact ⟨rfl, by rw [SZ.out]; exact R56.out.1.trans R34.out.1, by rw [SZ.out]; exact R56.out.2.trans R34.out.2, _, _, _, _, AB.out, by rw [List.length_append]; exact PS.out.symm, by rw [List.length_append, List.length_append]; have := HCL.out; simp; omega, by rw [List.length_append]; have := HPL.out; simp; omega, HCH.out.put HPB.out⟩
        exact AllReady.nil
      exact AllReady.nil
    exact AllReady.nil
  case hdone =>
    rintro D xs X hD hxs ⟨N, es', ch, cv, hA, hes, hchl, hprl, hch⟩ hdef
    rw [SZ.out] at hD
    subst hD
    rw [hxs] at hes hchl
    obtain ⟨ca, cc, hcv, hcr⟩ := row_of_owns hA.own
    subst hcv
    obtain ⟨E, hE⟩ : ∃ E, X.heap.size = E := ⟨_, rfl⟩
    have HE := Lib.hid hE
    obtain ⟨L, tv, mv, hS⟩ := hA.b
    have SS := Lib.hid hS
    have hL1 : L.length ≤ 1000 := by rw [hS.len, hes]; have := putsTo_len great wd es rs rs.length; omega
    have hch1 : ch.length ≤ 1000 := by omega
    have HCR := Lib.hid hcr
    have HA := Lib.hid hA
    have HES := Lib.hid hes
    have HCH := Lib.hid hch
    have hBE : B + 3 < E := by rw [← hE]; exact (Array.getElem?_eq_some_iff.1 hdef).1
    have HDF := Lib.hid hdef
    have c1 := hA.bc.cell
    clear hE hA hS hcr hes hchl hprl hch hdef hxs
    go_wp2_with (first | (refine wpList_make_own _ rfl _ _ 22 rfl E 40 i1 (.slice none 0 0) 1 Try.underlying22 J.out Y0.out Y1.out .i64 .i64 _ ch.length rfl rfl ?m0 ?m1 ?m2 ?m3 ?_))
    case m0 => first | rfl | (simp; omega) | omega
    case m1 => rw [Y2.out]; omega
    case m2 => unfold maxLen; omega
    case m3 => rw [HE.out]; omega
    intro w1 hown hgrow
    have U1 : Hid (UL E w1 (.slice (some ⟨X.heap.size, 0, none⟩) 0 ch.length) []) := Lib.hid ⟨hown, fun x hx => by cases hx⟩
    have L1 : Hid (Below E X w1) := Lib.hid (grown_below hgrow (by rw [HE.out]; exact Nat.le_refl _))
    have d1 : w1.cell? ⟨B + 1, 0, none⟩ = some (.slice ca ch.length cc) := (L1.out.cell (p := ⟨B + 1, 0, none⟩) (by show B + 1 < E; omega)).trans c1
    rw [HE.out] at U1 ⊢
    clear hown hgrow c1
    go_wp2_with fail
    go_loopw [43, 10] (fun s v wr => ∃ (i : Nat) (K : List RV) (u : Value), i ≤ ch.length ∧ s = .int .i64 i ∧ u = v ∧ Hid (K.length = i) ∧ Hid (UL E wr u K) ∧ Hid (K.map (·.2.1) = (ch.take i).map (rowI es')) ∧ Hid (Below E X wr)) (fun s _ _ => ch.length - (intOf s).toNat)
    case atStart => exact ⟨0, [], _, Nat.zero_le _, rfl, rfl, Lib.hid rfl, U1, Lib.hid (by simp), L1⟩
    case round =>
      obtain ⟨i, K, u, hi, rfl, rfl, HK, HU, HR, HL⟩ := hrel
      obtain ⟨Y, rfl⟩ : ∃ x, x = wr := ⟨wr, rfl⟩
      have hEY : E ≤ Y.heap.size := by have := HL.out.size; rw [HE.out] at this; exact this
      have bb : Y.cell? ⟨B, 0, none⟩ = some (.pointer (some ⟨g, 0, none⟩)) := (HL.out.cell (p := ⟨B, 0, none⟩) (by show B < E; omega)).trans HA.out.bb.cell
      have SY := Lib.hid (SS.out.below (by rw [HE.out]; exact HL.out))
      obtain ⟨g0, g1, g2, g3⟩ := SY.out.c
      have hKl : K.length ≤ 1000 := by have := HK.out; omega
      by_cases hlt : i < ch.length
      · obtain ⟨cb, co, hca, _, hcc⟩ := (HCR.out.belowB HE.out HL.out).at hlt
        cases hca
        obtain ⟨j, hj1, hj2⟩ := HCH.out.rng _ (show ch[i]?.getD 0 ∈ ch by rw [List.getElem?_eq_getElem hlt]; exact List.getElem_mem hlt)
        have ST : Hid ((ch.take (i + 1)).map (rowI es') = (ch.take i).map (rowI es') ++ [rowI es' (j : Int)]) := Lib.hid (by
          rw [List.take_succ_eq_append_getElem hlt, List.map_append]
          have : ch[i] = (j : Int) := by rw [← hj1, List.getElem?_eq_getElem hlt]; rfl
          simp [this])
        rw [hj1] at hcc
        obtain ⟨hjL, hrow⟩ := SY.out.rowIs (List.getElem?_eq_getElem hj2)
        have RI : Hid ((atV L j).2.1 = rowI es' (j : Int)) := Lib.hid (by rw [hrow]; simp [rowI, hj2])
        obtain ⟨tb, tc, htv, _⟩ := own_form SY.out.list (by omega)
        have tcell : Y.cell? ⟨tb, j, none⟩ = some (.slice (atV L j).1 (atV L j).2.1.length (atV L j).2.2) := by
          have h5 := SY.out.list
          rw [htv] at h5
          rw [h5.cellAt j (by omega), map_at hjL]; rfl
        rw [htv] at g2
        have RE := Lib.hid (row_enc (SY.out.rows _ (atV_mem hjL)))
        have FR : Hid (∀ q, (atV L j).1 = some q → q.block < Y.heap.size ∧ u.ownBlock ≠ some q.block) := Lib.hid (fun q hq => by
          have h5 := SS.out.rowsN _ (atV_mem hjL) q.block (by unfold encV; rw [hq]; rfl)
          have h6 := SS.out.lt _ h5
          rw [HE.out] at h6
          exact ⟨by omega, fun e => by have := (HU.out.own.lt _ e).1; omega⟩)
        clear hj1 hrow htv HCH
        generalize hx : atV L j = x at *
        clear hx
        obtain ⟨xa, xz, xc⟩ := x
        simp only at tcell RI RE FR
        go_wp2_with (first | (at_builtin; refine wpList_append_own_at _ rfl _ _ 22 rfl E 40 i1 (.slice none 0 0) 1 24 Try.underlying22 J.out Y0.out Y1.out Y2.out rfl (by decide) _ _ _ rfl (HU.out.own.alloc _) ⟨Y.heap.size, 0, none⟩ 1 1 [.slice xa xz.length xc] rfl rfl ?b1 ?b2 ?b3 ?b4 ?b5 ?_))
        case b1 => exact cell_one_new Y _ _
        case b2 => intro u hu; simp at hu; subst hu; rfl
        case b3 => unfold maxLen; omega
        case b4 => omega
        case b5 => simp; omega
        intro v1 w7 hown hgrow _ hat
        have U7 := Lib.hid (HU.out.push (x := (xa, xz, xc)) RE.out.1 RE.out.2 FR.out hown hgrow (by simpa using hat))
        have B7 := Lib.hid (HU.out.belowW HL.out hEY hgrow)
        clear hown hgrow hat g0 g1 g2 g3 bb tcell hcc
        go_wp2_with fail
        go_roundw
        case rel => exact ⟨i + 1, _, _, by omega, by go_num, rfl, Lib.hid (by rw [List.length_append, HK.out]; rfl), U7, Lib.hid (by rw [List.map_append, HR.out, ST.out, ← RI.out]; rfl), B7⟩
        case measure => simp [intOf]; omega
      · have tl : decide (i < ch.length) = false := decide_eq_false hlt
        obtain ⟨ua, uc, rfl, hRR⟩ := HU.out.rrow
        have HR2 : Hid (K.map (·.2.1) = ch.map (rowI es')) := Lib.hid (by rw [HR.out, List.take_of_length_le (by omega)])
        have wide : ∀ x ∈ K, x.2.1.length ≤ 1000000 := fun x hx => by
          have h1 : x.2.1 ∈ K.map (·.2.1) := List.mem_map_of_mem hx
          rw [HR2.out] at h1
          obtain ⟨y, hy, e⟩ := List.mem_map.1 h1
          obtain ⟨j, rfl, hj⟩ := HCH.out.rng y hy
          rw [← e]
          have h3 := SY.out.ok.len _ (List.getElem_mem hj)
          simp [rowI, rowE, hj, h3]; omega
        have cm := make_later (wd + 1) ua uc K Y hRR (by omega) hKl wide
        rw [HR2.out, chg_rel HCH.out] at cm
        clear hRR wide HR HR2
        go_wp2_with fail
        refine cm.mono ?_
        rintro e Z ⟨q, rfl, hl, hbz⟩
        have ML := Lib.hid hl
        have BZ := Lib.hid hbz
        have d6 : Z.heap[B + 3]? = some (.deferred (some [])) := (hbz.block _ (by omega)).trans ((HL.out.block _ hBE).trans HDF.out)
        clear cm hl hbz g0 g1 g2 g3 bb
        go_wp2_with fail
        refine ⟨by simp, .inl ⟨_, _, rfl, run_takeDeferred d6, ?_⟩⟩
        have gq : Z.grownBy (Z.putObj (B + 3) (.deferred none)) (some (B + 3)) := grownBy_putObj' Z _ _
        have kXZ : Keeps (fun _ => False) X Z := (Keeps.of_below (by rw [HE.out]; exact HL.out)).trans (Keeps.of_below BZ.out)
        have kZ : Keeps (fun k => k = B + 3) Z (Z.putObj (B + 3) (.deferred none)) := Keeps.of_grown gq (fun k e => by cases e; rfl)
        have nD : ∀ k, N k → ¬ k = B + 3 := fun k hN e => by
          rcases HA.out.low k hN with h3 | h3
          · have := HA.out.lt0 k h3; omega
          · omega
        have hwX := HA.out.keeps.size
        refine ⟨_, results_tmp rfl _ _ _, q, Y.heap.size, N, rfl, by rw [HB.out] at hwX ⊢; omega, Nat.le_trans BZ.out.size gq.size, fun W hW => ?_, ?_, fun k hN => ⟨?_, ?_⟩, ?_⟩
        · rw [← HES.out]
          refine ML.out W ?_
          have l1 : Later Y.heap.size Z (Z.putObj (B + 3) (.deferred none)) := ⟨gq.size, fun k h1 h2 => gq.block k h2 (fun e => by cases e; omega)⟩
          exact l1.trans hW (Nat.le_refl _)
        · rw [← HES.out]
          exact (HA.out.b.keeps kXZ (fun _ _ h => h)).keeps kZ nD
        · rw [HB.out]
          rcases HA.out.low k hN with h3 | h3
          · exact .inl h3
          · exact .inr (by omega)
        · have := HA.out.b.lt k hN; rw [HE.out] at this; omega
        · have k1 := HA.out.keeps.trans (kXZ.mono (fun _ _ h => h.elim))
          have k2 := k1.trans (kZ.mono (M := fun k => N0 k ∨ B ≤ k) (fun k _ h => .inr (by omega)))
          exact k2.mono (fun k hk h => by
            rcases h with h | h
            · exact h
            · rw [HB.out] at hk; omega)
/-- Add, told with what is then there. -/
def AddRet3 (N0 : Nat → Prop) (g wd : Nat) (great : Bool) (es' : List Ent) (rel : List (List Int)) (w : World) (e : Ending) (w' : World) : Prop :=
  ∃ p' L N', e = .returned (.pointer p') ∧ w.heap.size ≤ L ∧ L ≤ w'.heap.size ∧ (∀ W, Later L w' W → Seg W p' (wd + 1) rel) ∧ Bst N' w' g wd great es' ∧ (∀ k, N' k → (N0 k ∨ w.heap.size ≤ k) ∧ k < L) ∧ Keeps N0 w w'
theorem badd3_calls {N0 : Nat → Prop} {w : World} {g wd : Nat} {great : Bool} {es : List Ent} (h : Bst N0 w g wd great es) {p : Option Addr} {rs : List (List Int)} (hSL : ∀ W, Keeps (fun k => N0 k ∨ w.heap.size ≤ k) w W → Seg W p (wd + 1) rs) (hrg : ∀ r ∈ rs, InRange (r.take wd)) (hwd : wd ≤ 100) (hrs : rs.length ≤ 1000) (hel : es.length + rs.length ≤ 1000) {es' : List Ent} {rel : List (List Int)} (h1 : foldE great es (rs.map (entR wd)) = es') (h2 : relOf ((wd + 1 : Nat) : Int) ((news es es').map rowE) = rel) :
    Calls Try.prog 36 #[.pointer (some ⟨g, 0, none⟩), .pointer p] w (AddRet3 N0 g wd great es' rel w) := by
  have e1 : putsTo great wd es rs rs.length = es' := by unfold putsTo; rw [List.take_length]; exact h1
  refine (badd_calls h hSL hrg hwd hrs hel).mono ?_
  rintro e w' ⟨p', L, N', q1, q2, q3, q4, q5, q6, q7⟩
  rw [e1] at q4 q5
  rw [h2] at q4
  exact ⟨p', L, N', q1, q2, q3, q4, q5, q6, q7⟩
end Go.Proofs.Ytcecndjkfdaaaaa
