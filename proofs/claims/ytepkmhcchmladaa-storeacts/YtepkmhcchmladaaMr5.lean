import Derived.Test.YtepkmhcchmladaaMr4
import Derived.Test.YtepkmhcchmladaaUl
/- The law's walk: the rows of a list of relations, up to so many. -/
namespace Go.Proofs.Ytepkmhcchmladaa
open Go.RowKit Go.Shelf
attribute [local go_sem] Oper.semAt_some
set_option linter.unusedVariables false
set_option linter.unusedSimpArgs false

/-- What goes through the rounds of walk. -/
def WI (B D : Nat) (w : World) (most : Nat) (pre : List RV) (F : Nat → Prop) (X : World) : Prop :=
  ∃ v, F = (fun b => b = B + 2 ∨ v.ownBlock = some b) ∧ UL B X v pre ∧ Boxed X (B + 2) 28 v ∧ Boxed X B 3 (.int .i64 most) ∧ Below B w X ∧ pre.length < most ∧ (∀ b, v.ownBlock = some b → b ≠ B ∧ b ≠ B + 2 ∧ b ≠ D ∧ b ≠ D + 1) ∧ ∀ x ∈ pre, ∀ q, x.1 = some q → D + 2 ≤ q.block
/-- .. and where it is left. -/
def WX (B D : Nat) (w : World) (most : Nat) (pre : List RV) (X : World) : Prop :=
  ∃ v, UL B X v pre ∧ Boxed X (B + 2) 28 v ∧ Below B w X ∧ pre.length = most ∧ (∀ b, v.ownBlock = some b → b ≠ D ∧ b ≠ D + 1) ∧ ∀ x ∈ pre, ∀ q, x.1 = some q → D + 2 ≤ q.block
theorem boxed_kept {N : Nat → Prop} {W W' : World} {b : Nat} {t : TypeId} {v : Value} (h : Boxed W b t v) (hk : Keeps N W W') (hn : ¬ N b) : Boxed W' b t v := (hk.block b h.lt hn).trans h
theorem WI.keeps {B D : Nat} {w : World} {most : Nat} {pre : List RV} {F N : Nat → Prop} {X X' : World} (h : WI B D w most pre F X) (hBD : B < D) (hk : Keeps N X X') (hN : ∀ b, N b → ¬ F b ∧ D ≤ b ∧ ∀ x ∈ pre, offV x b) (hBX : B ≤ X.heap.size) : WI B D w most pre F X' := by
  obtain ⟨v, rfl, h1, h2, h3, h4, h5, h6, h7⟩ := h
  refine ⟨v, rfl, h1.keeps hk (fun b hb hn => (hN b hn).1 (.inr hb)) (fun x hx q hq hn => (hN _ hn).2.2 x hx q hq rfl), boxed_kept h2 hk (fun hn => (hN _ hn).1 (.inl rfl)), boxed_kept h3 hk (fun hn => by have := (hN _ hn).2.1; omega), h4.trans (hk.below hBX (fun k hn => by have := (hN _ hn).2.1; omega)), h5, h6, h7⟩
def WalkRet (T : List (List Int)) (most : Nat) (w : World) (e : Ending) (w' : World) : Prop :=
  ∃ a cap K, e = .returned (.slice a K.length cap) ∧ RRow w' a K ∧ Below w.heap.size w w' ∧ ((T.Perm (K.map (·.2.1)) ∧ (K.map (·.2.1)).Pairwise leR ∧ K.length < most) ∨ (K.length = most ∧ most ≤ T.length))
theorem keeps_set {N : Nat → Prop} {w w' : World} (h : Keeps N w w') {b : Nat} (hb : N b) (v : Value) : Keeps N w (w'.setCell ⟨b, 0, none⟩ v) := h.setCell (p := ⟨b, 0, none⟩) hb v
/-- A row is appended to the list in the box. -/
structure WPush (B D : Nat) (w : World) (pre : List RV) (x : RV) (v v' : Value) (X w1 : World) : Prop where
  box1 : Boxed w1 (B + 2) 28 v
  list : UL B (w1.setCell ⟨B + 2, 0, none⟩ v') v' (pre ++ [x])
  box : Boxed (w1.setCell ⟨B + 2, 0, none⟩ v') (B + 2) 28 v'
  keeps : Keeps (fun b => b = B + 2 ∨ v.ownBlock = some b) X (w1.setCell ⟨B + 2, 0, none⟩ v')
  own : ∀ b, v'.ownBlock = some b → v.ownBlock = some b ∨ X.heap.size ≤ b
  form : ∃ a cap, v' = .slice a (pre.length + 1) cap
theorem wpush {B D : Nat} {w X w1 : World} {pre : List RV} {x : RV} {v v' : Value} {o : Obj} (hU : UL B X v pre) (hb : Boxed X (B + 2) 28 v) (hv : v.ownBlock ≠ some (B + 2)) (hold : ∀ x ∈ pre, ∀ q, x.1 = some q → B + 2 < q.block) (hrow : Row X x.1 x.2.1) (hcap : x.2.1.length ≤ x.2.2) (hq : ∀ q, x.1 = some q → q.block < X.heap.size ∧ ¬ (q.block = B + 2 ∨ v.ownBlock = some q.block))
    (hown : w1.ownsRow B 33 1 v' (pre.length + 1) (pre.map encV ++ [encV x])) (hgrow : (X.alloc o).grownBy w1 v.ownBlock) (hat : v'.ownBlock = v.ownBlock ∨ v'.ownBlock = some (X.heap.size + 1)) : WPush B D w pre x v v' X w1 := by
  have k1 : Keeps (fun b => b = B + 2 ∨ v.ownBlock = some b) X w1 := ((Keeps.refl _ X).alloc o).trans (Keeps.of_grown hgrow (fun b hb => .inr hb))
  have hb1 : Boxed w1 (B + 2) 28 v := (hb.alloc o).kept hgrow (fun e => hv e.symm)
  have u1 := hU.push hrow hcap (fun p hp => ⟨(hq p hp).1, fun e => (hq p hp).2 (.inr e)⟩) hown hgrow (by simpa using hat)
  have ho : ∀ b, v'.ownBlock = some b → v.ownBlock = some b ∨ X.heap.size ≤ b := fun b hb => by
    rcases hat with e | e
    · exact .inl (e ▸ hb)
    · rw [e] at hb; simp at hb; exact .inr (by omega)
  have kb : Keeps (fun k => k = B + 2) w1 (w1.setCell ⟨B + 2, 0, none⟩ v') := keeps_set (N := fun k => k = B + 2) (Keeps.refl _ _) rfl v'
  have nb : B + 2 < X.heap.size := hb.lt
  refine ⟨hb1, u1.keeps kb (fun b hb' e => ?_) (fun y hy q hq' e => ?_), hb1.set v', k1.trans (kb.mono (fun k _ e => .inl e)), ho, ?_⟩
  · subst e
    rcases ho _ hb' with h1 | h1
    · exact hv h1
    · omega
  · rcases List.mem_append.1 hy with hy | hy
    · have := hold y hy q hq'; omega
    · obtain rfl := List.mem_singleton.1 hy
      exact (hq q hq').2 (.inl e)
  · obtain ⟨a, cap, e, _⟩ := u1.rrow
    exact ⟨a, cap, by simpa using e⟩
set_option maxRecDepth 100000 in
set_option maxHeartbeats 4000000 in
theorem walk_calls {w : World} (ad : Addr) (cap wd : Nat) (segs : List (Option Addr × List (List Int))) (most : Nat) (hp : PRow' w (some ad) (segs.map Prod.fst)) (hseg : ∀ s ∈ segs, Seg w s.1 wd s.2) (hwd : wd ≤ 1000) (hT : (segs.flatMap Prod.snd).length ≤ 100000) (hn : segs.length ≤ 1000) (hm : 0 < most) (hm2 : most ≤ 1000) :
    Calls Try.prog 11 #[.slice (some ad) segs.length cap, .int .i64 most] w (WalkRet (segs.flatMap Prod.snd) most w) := by
  obtain ⟨i1, hj0, hy0, hy1, hy2⟩ := info_parts info33
  have J := Lib.hid hj0
  have Y0 := Lib.hid hy0
  have Y1 := Lib.hid hy1
  have Y2 := Lib.hid hy2
  obtain ⟨B, hB⟩ : ∃ B, w.heap.size = B := ⟨_, rfl⟩
  have HB := Lib.hid hB
  have HP := Lib.hid hp
  have HS := Lib.hid hseg
  have HT := Lib.hid hT
  clear hj0 hy0 hy1 hy2 hB hp hseg hT
  refine callsIn_wide.1 (callsIn_of_wp_marks (n := 9) Try.func11 rfl trivial (wpIn_wide.2 ?_) rfl)
  simp only [Try.ntmps11, List.size_toArray, List.length_cons, List.length_nil, Nat.reduceAdd, Nat.reduceSub, Array.replicate_succ, Array.replicate_zero, List.push_toArray, List.append_toArray, List.nil_append, List.cons_append]
  go_wp2_with fail
  have HB1 : Hid ((w.alloc (.cells #[.int .i64 most] 3)).heap.size = B + 1) := Lib.hid (by simp [HB.out])
  have HB2 : Hid (((w.alloc (.cells #[.int .i64 most] 3)).alloc (.cells #[] 33)).heap.size = B + 2) := Lib.hid (by simp [HB.out])
  have SZ : Hid ((((w.alloc (.cells #[.int .i64 most] 3)).alloc (.cells #[] 33)).alloc (.cells #[.slice (some ⟨w.heap.size + 1, 0, none⟩) 0 0] 28)).heap.size = B + 3) := Lib.hid (by simp [HB.out])
  have BL : Hid (Below B w (((w.alloc (.cells #[.int .i64 most] 3)).alloc (.cells #[] 33)).alloc (.cells #[.slice (some ⟨w.heap.size + 1, 0, none⟩) 0 0] 28))) := Lib.hid ((((Below.refl _ _).alloc (by rw [HB.out]; omega) _).alloc (by simp; rw [HB.out]; omega) _).alloc (by simp; rw [HB.out]; omega) _)
  have X0 := Lib.hid (((Boxed.new w 3 (.int .i64 most)).alloc (.cells #[] 33)).alloc (.cells #[.slice (some ⟨w.heap.size + 1, 0, none⟩) 0 0] 28))
  have X2 := Lib.hid (Boxed.new ((w.alloc (.cells #[.int .i64 most] 3)).alloc (.cells #[] 33)) 28 (.slice (some ⟨w.heap.size + 1, 0, none⟩) 0 0))
  have U0 := Lib.hid ((UL.nil B (w.alloc (.cells #[.int .i64 most] 3)) (by simp; rw [HB.out]; omega)).below ((Below.refl _ _).alloc (Nat.le_refl _) (.cells #[.slice (some ⟨w.heap.size + 1, 0, none⟩) 0 0] 28)))
  rw [HB.out] at X0 X2 U0 SZ BL ⊢
  rw [HB1.out] at U0
  rw [HB2.out] at X2
  clear HB1 HB2
  generalize World.alloc (World.alloc (World.alloc w _) _) _ = V0 at *
  have HPV := HP.out.below (by rw [HB.out]; exact BL.out)
  have cr := rows_calls ad cap (segs.map Prod.fst) V0 HPV (by simp; omega)
  rw [List.length_map] at cr
  refine cr.mono ?_
  rintro e W0 ⟨Bp, ca, cc, rfl, hbp, hpr, ⟨hf1, hf2⟩, hbw⟩
  have X0' := Lib.hid (X0.out.kept (row := none) (grown_of_below hbw none) (by simp))
  have X2' := Lib.hid (X2.out.kept (row := none) (grown_of_below hbw none) (by simp))
  have U0' := Lib.hid (U0.out.below hbw)
  have BW : Hid (Below B w W0) := Lib.hid (BL.out.trans (hbw.mono (by rw [SZ.out]; omega)))
  have HBP := Lib.hid hbp
  have HPR := Lib.hid hpr
  have HF := Lib.hid (And.intro hf1 hf2)
  rw [SZ.out] at HF
  obtain ⟨D, hD⟩ : ∃ D, W0.heap.size = D := ⟨_, rfl⟩
  have HD := Lib.hid hD
  have hBD : B + 3 ≤ D := by have := hbw.size; rw [SZ.out] at this; omega
  clear cr HPV X0 X2 U0 hbw hbp hpr hf1 hf2 hD SZ BL
  go_wp2_with fail
  refine (wpIn_wide (n := 9)).1 ?_
  refine range_loop3 (α := RV) (gf := 61) (lb := #[.pointer (some ⟨Bp, 0, none⟩)]) rfl (enters_of Try.func61 (by kernel_rfl) rfl) (encs := fun x => #[encV x]) (fun _ => rfl) (RRx (segs.flatMap Prod.snd) D) offV (RS (segs.flatMap Prod.snd)) (RSp (segs.flatMap Prod.snd)) (WI B D w most) (fun c pre X => c = .exit 0 ∧ WX B D w most pre X) (fun b => b = B + 2 ∨ (Value.slice (some ⟨B + 1, 0, none⟩) 0 0).ownBlock = some b)
    ?hIF ?hI ?hIx ?hRo ?hR ?h0 (A := fun b => b = B + 2 ∨ (Value.slice (some ⟨B + 1, 0, none⟩) 0 0).ownBlock = some b) (fun _ h => h) ?hiter (fun x => { tmps := #[.slice (some ad) segs.length cap, .int .i64 most, undef, .pointer (some ⟨B, 0, none⟩), .slice none 0 0, .pointer (some ⟨B + 1 + 1, 0, none⟩), encV x, .slice (some ⟨B + 1, 0, none⟩) 0 0, .slice (some ad) segs.length cap, .func (.func 61) #[] #[.pointer (some ⟨Bp, 0, none⟩)], encV x, undef, undef, undef, undef, undef, undef, undef, undef, undef], defers := [] }) ?hassign ?hbody ?hdone ?hstop
  case hassign => intro l x X K hK; gi_wp2; exact hK
  case hIF =>
    rintro pre F X ⟨v, rfl, h1, h2, h3, h4, h5, h6, h7⟩ b hb
    rw [HD.out]
    rcases hb with rfl | hb
    · exact ⟨h2.lt, by omega, by omega⟩
    · exact ⟨(h1.own.lt b hb).2, (h6 b hb).2.2⟩
  case hI =>
    rintro pre F X X' N h hk hN
    have hBX : B ≤ X.heap.size := by obtain ⟨v, _, _, _, _, h4, _⟩ := h; have := h4.size; rw [HB.out] at this; exact this
    rw [HD.out] at hN
    exact h.keeps (by omega) hk hN hBX
  case hIx =>
    rintro c pre X X' ⟨hc, v, h1, h2, h3, h4, h5, h6⟩ hoff hk
    rw [HD.out] at hk hoff
    have hBX : B ≤ X.heap.size := by have := h3.size; rw [HB.out] at this; exact this
    exact ⟨hc, v, h1.keeps hk (fun b hb e => (h5 b hb).2 e) (fun x hx q hq e => hoff x hx q hq e), boxed_kept h2 hk (by omega), h3.trans (hk.below hBX (fun k e => by omega)), h4, h5, h6⟩
  case hRo =>
    rintro pre x F X ⟨_, _, h, _⟩ q hq
    have := (h q hq).2.1
    rw [HD.out]; omega
  case hR =>
    rintro pre x F X X' L ⟨h1, h2, h3, h4⟩ hL hk
    rw [HD.out] at hL hk
    refine ⟨?_, h2, fun q hq => ⟨Nat.lt_of_lt_of_le (h3 q hq).1 hk.size, (h3 q hq).2⟩, h4⟩
    exact h1.keeps hk (fun q hq e => by have := (h3 q hq).2.1; omega)
  case h0 =>
    exact ⟨_, rfl, U0'.out, X2'.out, X0'.out, BW.out, hm, fun b hb => by simp [Value.ownBlock] at hb; omega, fun x hx => by cases hx⟩
  case hiter =>
    rw [HD.out]
    refine rows1_in 8 Bp ca cc wd segs _ _ D W0 hwd rfl HT.out hn HD.out.symm (fun W hk => ?_)
    have nA : ∀ k, (k = B + 2 ∨ (Value.slice (some ⟨B + 1, 0, none⟩) 0 0).ownBlock = some k) → B ≤ k ∧ k < B + 3 := fun k hk => by
      rcases hk with e | e
      · omega
      · simp [Value.ownBlock] at e; omega
    have hcl : W.cell? ⟨Bp, 0, none⟩ = some (.slice ca segs.length cc) := by
      have h1 := HBP.out
      rw [List.length_map] at h1
      rw [World.cell?_of_block (a := ⟨Bp, 0, none⟩) (hk.block Bp (World.block_lt_of_cell? W0 ⟨Bp, 0, none⟩ HBP.out) (fun h => by have := nA _ h; have := HF.out.1; omega))]
      exact h1
    have hbw := BW.out.trans (hk.below (B := B) (by rw [HD.out]; omega) (fun k h => (nA k h).1))
    exact ⟨hcl, HPR.out.keeps hk (fun q hq h => by have := nA _ h; have := HF.out.2 q hq; omega), fun s hs => (HS.out s hs).below (by rw [HB.out]; exact hbw)⟩
  case hbody =>
    rintro l pre F x X hsz ⟨v, hF, hU, hb2, hb0, hbl, hlen, hown, hold⟩ ⟨hx1, hx2, hx3, hx4, hx5⟩
    obtain ⟨xa, xz, xc⟩ := x
    dsimp only at hx1 hx2 hx3
    obtain ⟨va, vc, rfl, _⟩ := hU.rrow
    have c1 : X.cell? ⟨B + 1 + 1, 0, none⟩ = some (.slice va pre.length vc) := hb2.cell
    have c0 := hb0.cell
    have HU := Lib.hid hU
    have HX := Lib.hid (And.intro hx1 (And.intro hx2 hx3))
    have hpl : pre.length ≤ 1000 := by omega
    have HBO := Lib.hid (And.intro hb2 hb0)
    have HBL := Lib.hid hbl
    have HOW := Lib.hid hown
    have HOLD := Lib.hid hold
    have PW := Lib.hid (fun v' w1 (h1 : w1.ownsRow B 33 1 v' (pre.length + 1) (pre.map encV ++ [encV (xa, xz, xc)])) h2 h3 => wpush (B := B) (D := D) (w := w) (w1 := w1) (v' := v') (x := (xa, xz, xc)) (o := .cells #[.slice xa xz.length xc] 33) hU hb2 (fun e => (hown _ e).2.1 rfl) (fun x hx q hq => by have := hold x hx q hq; omega) hx1 hx2 (fun q hq => ⟨(hx3 q hq).1, fun e => (hx3 q hq).2.2 (by rw [hF]; exact e)⟩) h1 h2 h3)
    have HFF := Lib.hid hF
    have HX5 := Lib.hid hx5
    rw [HD.out] at hsz
    clear hU hx1 hx2 hx3 hx4 hx5 hb2 hb0 hbl hown hF hold
    dsimp only [encV]
    refine wpIn_block ?_
    gi_wp2_with (first | (gi_at_builtin; refine listIn_of_list l _ (by rintro ⟨a9, w9, h9⟩; simp (config := { zetaDelta := true }) [Exit.then, Exit.inBlock, RPost] at h9) _ (by intro o ho c; simp only [List.mem_cons, List.not_mem_nil, or_false] at ho; rcases ho with rfl | rfl <;> simp) _ _ ?_; refine wpList_append_own_at _ rfl _ _ 28 rfl B 33 i1 (.slice none 0 0) 1 24 Try.underlying28 J.out Y0.out Y1.out Y2.out rfl (by decide) _ _ _ rfl (HU.out.own.alloc _) ⟨X.heap.size, 0, none⟩ 1 1 [.slice xa xz.length xc] rfl rfl ?b1 ?b2 ?b3 ?b4 ?b5 ?_))
    case b1 => exact cell_one_new X _ _
    case b2 => intro u hu; simp at hu; subst hu; rfl
    case b3 => unfold maxLen; omega
    case b4 => omega
    case b5 => simp; omega
    intro v' w1 hown' hgrow _ hat
    have P := Lib.hid (PW.out v' w1 hown' hgrow (by simpa using hat))
    clear hown' hgrow hat
    obtain ⟨na, nc, rfl⟩ := P.out.form
    have d1 : w1.cell? ⟨B + 1 + 1, 0, none⟩ = some (.slice va pre.length vc) := P.out.box1.cell
    have f1 : w1.frozen? ⟨B + 1 + 1, 0, none⟩ = false := P.out.box1.frozen
    have Y1' : Hid (UL B (w1.setCell ⟨B + 1 + 1, 0, none⟩ (.slice na (pre.length + 1) nc)) (.slice na (pre.length + 1) nc) (pre ++ [(xa, xz, xc)])) := Lib.hid P.out.list
    have Y2' : Hid (Boxed (w1.setCell ⟨B + 1 + 1, 0, none⟩ (.slice na (pre.length + 1) nc)) (B + 2) 28 (.slice na (pre.length + 1) nc)) := Lib.hid P.out.box
    have Y3' : Hid (Keeps (fun b => b = B + 2 ∨ (Value.slice va pre.length vc).ownBlock = some b) X (w1.setCell ⟨B + 1 + 1, 0, none⟩ (.slice na (pre.length + 1) nc))) := Lib.hid P.out.keeps
    have PO := Lib.hid P.out.own
    have e1 : (w1.setCell ⟨B + 1 + 1, 0, none⟩ (.slice na (pre.length + 1) nc)).cell? ⟨B + 1 + 1, 0, none⟩ = some (.slice na (pre.length + 1) nc) := Y2'.out.cell
    have Y4' : Hid (Boxed (w1.setCell ⟨B + 1 + 1, 0, none⟩ (.slice na (pre.length + 1) nc)) B 3 (.int .i64 most)) := Lib.hid (boxed_kept HBO.out.2 Y3'.out (fun e => by
      rcases e with e | e
      · omega
      · exact (HOW.out _ e).1 rfl))
    have e2 := Y4'.out.cell
    clear c1 c0
    go_wp2_with fail
    generalize World.setCell w1 _ _ = Y at *
    clear d1 f1 P PW
    by_cases hmost : pre.length + 1 = most
    · have t1 : (((pre.length : Int) + 1) == (most : Int)) = true := by rw [beq_iff_eq]; omega
      gi_wp2
      have nD : ∀ k, k = D ∨ k = D + 1 → ¬ (k = B + 2 ∨ (Value.slice va pre.length vc).ownBlock = some k) := fun k hk e => by
        rcases e with e | e
        · omega
        · have := HOW.out _ e; omega
      have dX : ∀ k, k = D ∨ k = D + 1 → Y.heap[k]? = X.heap[k]? := fun k hk => Y3'.out.block k (by omega) (nD k hk)
      rw [HD.out]
      refine ⟨⟨dX D (.inl rfl), dX (D + 1) (.inr rfl)⟩, rfl, _, Y1'.out, Y2'.out, HBL.out.trans (Y3'.out.below (by have := HBL.out.size; rw [HB.out] at this; exact this) (fun k e => ?_)), by simp; exact hmost, fun b hb => ?_, fun x hx q hq => ?_⟩
      · rcases e with e | e
        · omega
        · exact (HU.out.own.lt k e).1
      · rcases PO.out b hb with h | h
        · exact (HOW.out _ h).2.2
        · omega
      · rcases List.mem_append.1 hx with hx | hx
        · exact HOLD.out x hx q hq
        · obtain rfl := List.mem_singleton.1 hx
          exact (HX.out.2.2 q hq).2.1
    · have t1 : (((pre.length : Int) + 1) == (most : Int)) = false := beq_eq_false_iff_ne.2 (by omega)
      gi_wp2
      rw [HFF.out]
      refine ⟨_, ⟨_, rfl, Y1'.out, Y2'.out, Y4'.out, HBL.out.trans (Y3'.out.below (by have := HBL.out.size; rw [HB.out] at this; exact this) (fun k e => ?_)), by simp; omega, fun b hb => ?_, fun x hx q hq => ?_⟩, Y3'.out, fun b hb => ?_⟩
      · rcases e with e | e
        · omega
        · exact (HU.out.own.lt k e).1
      · rcases PO.out b hb with h | h
        · exact HOW.out _ h
        · omega
      · rcases List.mem_append.1 hx with hx | hx
        · exact HOLD.out x hx q hq
        · obtain rfl := List.mem_singleton.1 hx
          exact (HX.out.2.2 q hq).2.1
      · rcases hb with h | h
        · exact .inl (.inl h)
        · rcases PO.out b h with h | h
          · exact .inl (.inr h)
          · exact .inr h
  case hdone =>
    rintro D' xs F X hD' hS ⟨v, hF, hU, hb2, hb0, hbl, hlen, hown, hold⟩ hdef
    rw [HD.out] at hD'
    subst hD'
    obtain ⟨va, vc, rfl, hrr⟩ := hU.rrow
    have c1 : X.cell? ⟨B + 1 + 1, 0, none⟩ = some (.slice va xs.length vc) := hb2.cell
    have HRR := Lib.hid hrr
    have HBL := Lib.hid hbl
    have HSS := Lib.hid hS
    have HU := Lib.hid hU
    have HOW := Lib.hid hown
    have HOLD := Lib.hid hold
    clear hU hb2 hb0 hbl hown hold hrr hF hS
    go_wp2_with fail
    refine ⟨by simp, .inl ⟨_, _, rfl, run_takeDeferred hdef, ?_⟩⟩
    have kq := keeps_putObj (W := X) D' (.deferred none)
    have u2 := HU.out.keeps kq (fun b hb e => (HOW.out b hb).2.2.1 e) (fun x hx q hq e => by have := HOLD.out x hx q hq; omega)
    obtain ⟨va', vc', hv', hrr⟩ := u2.rrow
    cases hv'
    have hbw : Below w.heap.size w (X.putObj D' (.deferred none)) := by
      rw [HB.out]
      exact HBL.out.trans (kq.below (by have := HBL.out.size; rw [HB.out] at this; exact this) (fun k e => by omega))
    exact ⟨_, results_tmp rfl _ _ _, va, vc, xs, rfl, hrr, hbw, .inl ⟨HSS.out.1, HSS.out.2, hlen⟩⟩
  case hstop =>
    rintro D' c xs X hD' hS ⟨rfl, v, hU, hb2, hbl, hlen, hown, hold⟩ hdef
    rw [HD.out] at hD'
    subst hD'
    obtain ⟨va, vc, rfl, hrr⟩ := hU.rrow
    have c1 : X.cell? ⟨B + 1 + 1, 0, none⟩ = some (.slice va xs.length vc) := hb2.cell
    have HBL := Lib.hid hbl
    have HSS := Lib.hid hS
    have HU := Lib.hid hU
    have HOW := Lib.hid hown
    have HOLD := Lib.hid hold
    have HLN := Lib.hid hlen
    clear hU hb2 hbl hown hold hrr hS hlen
    gi_wp2
    go_wp2_with fail
    refine ⟨by simp, .inl ⟨_, _, rfl, run_takeDeferred hdef, ?_⟩⟩
    have kq := keeps_putObj (W := X) D' (.deferred none)
    have u2 := HU.out.keeps kq (fun b hb e => (HOW.out b hb).1 e) (fun x hx q hq e => by have := HOLD.out x hx q hq; omega)
    obtain ⟨va', vc', hv', hrr⟩ := u2.rrow
    cases hv'
    have hbw : Below w.heap.size w (X.putObj D' (.deferred none)) := by
      rw [HB.out]
      exact HBL.out.trans (kq.below (by have := HBL.out.size; rw [HB.out] at this; exact this) (fun k e => by omega))
    have hle : most ≤ (segs.flatMap Prod.snd).length := by have h9 := HSS.out; unfold RSp at h9; rw [HLN.out] at h9; exact h9
    exact ⟨_, results_tmp rfl _ _ _, va, vc, xs, rfl, hrr, hbw, .inr ⟨HLN.out, hle⟩⟩
end Go.Proofs.Ytepkmhcchmladaa
