import Derived.Test.YtepkmhcchmladaaSegMath
import Derived.Test.YtepkmhcchmladaaMr5
import Derived.Laws.AppendOwnNone
import Derived.Test.YtepkmhcchmladaaSt1
import Derived.Deep.DeepCutAuto
/- Rows none twice: their relation is a rearrangement. -/
namespace Go.Proofs.Ytepkmhcchmladaa
set_option linter.unusedVariables false
set_option linter.unusedSimpArgs false

theorem ins_perm {l : List (List Int)} {r : List Int} (h : r ∉ l) : (ins l r).Perm (r :: l) := by
  unfold ins
  rw [if_neg (fun e => h (List.mem_of_getElem? e))]
  have := List.perm_middle (a := r) (l₁ := l.take (before l r)) (l₂ := l.drop (before l r))
  rwa [List.take_append_drop] at this
theorem rel_perm (n : Nat) : ∀ (rows acc : List (List Int)), (∀ r ∈ rows, r.length = n) → (∀ r ∈ rows, r ∉ acc) → rows.Pairwise (· ≠ ·) → (rows.foldl (fun out r => if (r.length : Int) = (n : Int) then ins out r else out) acc).Perm (rows ++ acc)
  | [], acc, _, _, _ => List.Perm.refl _
  | r :: rows, acc, hl, hn, hp => by
    rw [List.foldl_cons, if_pos (by rw [hl r (List.mem_cons_self ..)])]
    obtain ⟨hp1, hp2⟩ := List.pairwise_cons.1 hp
    have hr := hn r (List.mem_cons_self ..)
    have ih := rel_perm n rows (ins acc r) (fun x hx => hl x (List.mem_cons_of_mem _ hx)) (fun x hx h => by
      rcases (mem_ins acc r x).1 h with e | e
      · exact hp1 x hx e.symm
      · exact hn x (List.mem_cons_of_mem _ hx) e) hp2
    refine ih.trans ?_
    have h1 : (rows ++ ins acc r).Perm (rows ++ r :: acc) := List.Perm.append_left _ (ins_perm hr)
    exact h1.trans List.perm_middle
theorem rel_len_eq {n : Nat} {rows : List (List Int)} (hl : ∀ r ∈ rows, r.length = n) (hp : rows.Pairwise (· ≠ ·)) : (relOf (n : Int) rows).length = rows.length := by
  have := (rel_perm n rows [] hl (fun r _ h => by cases h) hp).length_eq
  rw [List.append_nil] at this
  exact this
end Go.Proofs.Ytepkmhcchmladaa

/- slices.Collect over the rows of relations, and merge.All. -/
namespace Go.Proofs.Ytepkmhcchmladaa
open Go.RowKit Go.Shelf
attribute [local go_sem] Oper.semAt_some
set_option linter.unusedVariables false
set_option linter.unusedSimpArgs false

/-- A row is appended to the list in the box c. -/
structure CPush (B c : Nat) (pre : List RV) (x : RV) (v v' : Value) (X w1 : World) : Prop where
  box1 : Boxed w1 c 28 v
  list : UL B (w1.setCell ⟨c, 0, none⟩ v') v' (pre ++ [x])
  box : Boxed (w1.setCell ⟨c, 0, none⟩ v') c 28 v'
  keeps : Keeps (fun b => b = c ∨ v.ownBlock = some b) X (w1.setCell ⟨c, 0, none⟩ v')
  own : ∀ b, v'.ownBlock = some b → v.ownBlock = some b ∨ X.heap.size ≤ b
  form : ∃ a cap, v' = .slice a (pre.length + 1) cap
theorem cpush {B c : Nat} {X w1 : World} {pre : List RV} {x : RV} {v v' : Value} {o : Obj} (hU : UL B X v pre) (hb : Boxed X c 28 v) (hv : v.ownBlock ≠ some c) (hold : ∀ x ∈ pre, ∀ q, x.1 = some q → q.block ≠ c) (hrow : Row X x.1 x.2.1) (hcap : x.2.1.length ≤ x.2.2) (hq : ∀ q, x.1 = some q → q.block < X.heap.size ∧ ¬ (q.block = c ∨ v.ownBlock = some q.block))
    (hown : w1.ownsRow B 33 1 v' (pre.length + 1) (pre.map encV ++ [encV x])) (hgrow : (X.alloc o).grownBy w1 v.ownBlock) (hat : v'.ownBlock = v.ownBlock ∨ v'.ownBlock = some (X.heap.size + 1)) : CPush B c pre x v v' X w1 := by
  have k1 : Keeps (fun b => b = c ∨ v.ownBlock = some b) X w1 := ((Keeps.refl _ X).alloc o).trans (Keeps.of_grown hgrow (fun b hb => .inr hb))
  have hb1 : Boxed w1 c 28 v := (hb.alloc o).kept hgrow (fun e => hv e.symm)
  have u1 := hU.push hrow hcap (fun p hp => ⟨(hq p hp).1, fun e => (hq p hp).2 (.inr e)⟩) hown hgrow (by simpa using hat)
  have ho : ∀ b, v'.ownBlock = some b → v.ownBlock = some b ∨ X.heap.size ≤ b := fun b hb => by
    rcases hat with e | e
    · exact .inl (e ▸ hb)
    · rw [e] at hb; simp at hb; exact .inr (by omega)
  have kb : Keeps (fun k => k = c) w1 (w1.setCell ⟨c, 0, none⟩ v') := keeps_set (N := fun k => k = c) (Keeps.refl _ _) rfl v'
  have nb : c < X.heap.size := hb.lt
  refine ⟨hb1, u1.keeps kb (fun b hb' e => ?_) (fun y hy q hq' e => ?_), hb1.set v', k1.trans (kb.mono (fun k _ e => .inl e)), ho, ?_⟩
  · subst e
    rcases ho _ hb' with h1 | h1
    · exact hv h1
    · omega
  · rcases List.mem_append.1 hy with hy | hy
    · exact hold y hy q hq' e
    · obtain rfl := List.mem_singleton.1 hy
      exact (hq q hq').2 (.inl e)
  · obtain ⟨a, cap, e, _⟩ := u1.rrow
    exact ⟨a, cap, by simpa using e⟩
/-- What goes through the rounds of AppendSeq. -/
def CI (B D : Nat) (w : World) (pre : List RV) (F : Nat → Prop) (X : World) : Prop :=
  ∃ v, F = (fun b => b = B ∨ v.ownBlock = some b) ∧ UL B X v pre ∧ Boxed X B 28 v ∧ Below B w X ∧ (∀ b, v.ownBlock = some b → b ≠ B ∧ b ≠ D ∧ b ≠ D + 1) ∧ ∀ x ∈ pre, ∀ q, x.1 = some q → D + 2 ≤ q.block
def CollRet (T : List (List Int)) (w : World) (e : Ending) (w' : World) : Prop :=
  ∃ a cap K, e = .returned (.slice a K.length cap) ∧ RRow w' a K ∧ Below w.heap.size w w' ∧ T.Perm (K.map (·.2.1))
set_option maxRecDepth 100000 in
set_option maxHeartbeats 4000000 in
theorem appendSeq_calls {w : World} (Bp : Nat) (sa : Option Addr) (cap wd : Nat) (segs : List (Option Addr × List (List Int))) (hE : ∀ W, Below w.heap.size w W → REnv W Bp sa segs.length cap wd segs) (hwd : wd ≤ 1000) (hT : (segs.flatMap Prod.snd).length ≤ 1000) (hn : segs.length ≤ 1000) :
    Calls Try.prog 93 #[.slice none 0 0, .func (.func 61) #[] #[.pointer (some ⟨Bp, 0, none⟩)]] w (CollRet (segs.flatMap Prod.snd) w) := by
  obtain ⟨i1, hj0, hy0, hy1, hy2⟩ := info_parts info33
  have J := Lib.hid hj0
  have Y0 := Lib.hid hy0
  have Y1 := Lib.hid hy1
  have Y2 := Lib.hid hy2
  obtain ⟨B, hB⟩ : ∃ B, w.heap.size = B := ⟨_, rfl⟩
  have HB := Lib.hid hB
  have HEN := Lib.hid hE
  have HT := Lib.hid hT
  clear hj0 hy0 hy1 hy2 hB hE hT
  refine callsIn_wide.1 (callsIn_of_wp_marks (n := 9) Try.func93 rfl trivial (wpIn_wide.2 ?_) rfl)
  simp only [Try.ntmps93, List.size_toArray, List.length_cons, List.length_nil, Nat.reduceAdd, Nat.reduceSub, Array.replicate_succ, Array.replicate_zero, List.push_toArray, List.append_toArray, List.nil_append, List.cons_append]
  go_wp2_with fail
  have SZ : Hid ((w.alloc (.cells #[.slice none 0 0] 28)).heap.size = B + 1) := Lib.hid (by simp [HB.out])
  have X2 := Lib.hid (Boxed.new w 28 (.slice none 0 0))
  have BW : Hid (Below B w (w.alloc (.cells #[.slice none 0 0] 28))) := Lib.hid ((Below.refl _ _).alloc (by rw [HB.out]; omega) _)
  have U0 : Hid (UL B (w.alloc (.cells #[.slice none 0 0] 28)) (.slice none 0 0) []) := Lib.hid ⟨World.ownsRow_nil _ _ _ _, fun x hx => by cases hx⟩
  rw [HB.out] at X2 ⊢
  generalize World.alloc w _ = W0 at *
  obtain ⟨D, hD⟩ : ∃ D, W0.heap.size = D := ⟨_, rfl⟩
  have HD := Lib.hid hD
  have hBD : B + 1 ≤ D := by have := SZ.out; omega
  clear hD SZ
  refine (wpIn_wide (n := 9)).1 ?_
  refine range_loop3 (α := RV) (gf := 61) (lb := #[.pointer (some ⟨Bp, 0, none⟩)]) rfl (enters_of Try.func61 (by kernel_rfl) rfl) (encs := fun x => #[encV x]) (fun _ => rfl) (RRx (segs.flatMap Prod.snd) D) offV (RS (segs.flatMap Prod.snd)) (RSp (segs.flatMap Prod.snd)) (CI B D w) (fun c pre X => False) (fun b => b = B ∨ (Value.slice none 0 0).ownBlock = some b)
    ?hIF ?hI ?hIx ?hRo ?hR ?h0 (A := fun b => b = B ∨ (Value.slice none 0 0).ownBlock = some b) (fun _ h => h) ?hiter (fun x => { tmps := #[.slice none 0 0, .func (.func 61) #[] #[.pointer (some ⟨Bp, 0, none⟩)], .pointer (some ⟨B, 0, none⟩), undef, .slice none 0 0, encV x, .func (.func 61) #[] #[.pointer (some ⟨Bp, 0, none⟩)], encV x, undef, undef, undef, undef, undef], defers := [] }) ?hassign ?hbody ?hdone ?hstop
  case hassign => intro l x X K hK; gi_wp2; exact hK
  case hIF =>
    rintro pre F X ⟨v, rfl, h1, h2, h4, h6, h7⟩ b hb
    rw [HD.out]
    rcases hb with rfl | hb
    · exact ⟨h2.lt, by omega, by omega⟩
    · exact ⟨(h1.own.lt b hb).2, (h6 b hb).2⟩
  case hI =>
    rintro pre F X X' N ⟨v, rfl, h1, h2, h4, h6, h7⟩ hk hN
    have hBX : B ≤ X.heap.size := by have := h4.size; rw [HB.out] at this; exact this
    rw [HD.out] at hN
    exact ⟨v, rfl, h1.keeps hk (fun b hb hn => (hN b hn).1 (.inr hb)) (fun x hx q hq hn => (hN _ hn).2.2 x hx q hq rfl), boxed_kept h2 hk (fun hn => (hN _ hn).1 (.inl rfl)), h4.trans (hk.below hBX (fun k hn => by have := (hN _ hn).2.1; omega)), h6, h7⟩
  case hIx => rintro c pre X X' h; exact h.elim
  case hRo =>
    rintro pre x F X ⟨_, _, h, _⟩ q hq
    have := (h q hq).2.1
    rw [HD.out]; omega
  case hR =>
    rintro pre x F X X' L ⟨h1, h2, h3, h4⟩ hL hk
    rw [HD.out] at hL hk
    exact ⟨h1.keeps hk (fun q hq e => by have := (h3 q hq).2.1; omega), h2, fun q hq => ⟨Nat.lt_of_lt_of_le (h3 q hq).1 hk.size, (h3 q hq).2⟩, h4⟩
  case h0 => exact ⟨_, rfl, U0.out, X2.out, BW.out, (fun b hb => by simp [Value.ownBlock] at hb), fun x hx => by cases hx⟩
  case hiter =>
    rw [HD.out]
    refine rows1_in 8 Bp sa cap wd segs _ _ D W0 hwd rfl (by have := HT.out; omega) hn HD.out.symm (fun W hk => ?_)
    refine HEN.out W ?_
    rw [HB.out]
    exact BW.out.trans (hk.below (B := B) (by rw [HD.out]; omega) (fun k h => by
      rcases h with h | h
      · omega
      · simp [Value.ownBlock] at h))
  case hbody =>
    rintro l pre F x X hsz ⟨v, hF, hU, hb2, hbl, hown, hold⟩ ⟨hx1, hx2, hx3, hx4, hx5⟩
    obtain ⟨xa, xz, xc⟩ := x
    dsimp only at hx1 hx2 hx3
    obtain ⟨va, vc, rfl, _⟩ := hU.rrow
    have c1 : X.cell? ⟨B, 0, none⟩ = some (.slice va pre.length vc) := hb2.cell
    have HU := Lib.hid hU
    have HX := Lib.hid (And.intro hx1 (And.intro hx2 hx3))
    have hpl : pre.length ≤ 1000 := by have := HT.out; omega
    have HBL := Lib.hid hbl
    have HOW := Lib.hid hown
    have HOLD := Lib.hid hold
    rw [HD.out] at hsz
    have PW := Lib.hid (fun v' w1 (h1 : w1.ownsRow B 33 1 v' (pre.length + 1) (pre.map encV ++ [encV (xa, xz, xc)])) h2 h3 => cpush (B := B) (c := B) (w1 := w1) (v' := v') (x := (xa, xz, xc)) (o := .cells #[.slice xa xz.length xc] 33) hU hb2 (fun e => (hown _ e).1 rfl) (fun x hx q hq => by have := hold x hx q hq; omega) hx1 hx2 (fun q hq => ⟨(hx3 q hq).1, fun e => (hx3 q hq).2.2 (by rw [hF]; exact e)⟩) h1 h2 h3)
    have HFF := Lib.hid hF
    clear hU hx1 hx2 hx3 hx4 hx5 hb2 hbl hown hF hold
    dsimp only [encV]
    try refine wpIn_block ?_
    gi_wp2_with (first | (gi_at_builtin; refine listIn_of_list l _ (by rintro ⟨a9, w9, h9⟩; simp (config := { zetaDelta := true }) [Exit.then, Exit.inBlock, RPost] at h9) _ (by intro o ho c; simp only [List.mem_cons, List.not_mem_nil, or_false] at ho; rcases ho with rfl | rfl <;> simp) _ _ ?_; refine wpList_append_own_at _ rfl _ _ 28 rfl B 33 i1 (.slice none 0 0) 1 24 Try.underlying28 J.out Y0.out Y1.out Y2.out rfl (by decide) _ _ _ rfl (HU.out.own.alloc _) ⟨X.heap.size, 0, none⟩ 1 1 [.slice xa xz.length xc] rfl rfl ?b1 ?b2 ?b3 ?b4 ?b5 ?_))
    case b1 => exact cell_one_new X _ _
    case b2 => intro u hu; simp at hu; subst hu; rfl
    case b3 => unfold maxLen; omega
    case b4 => omega
    case b5 => simp; omega
    intro v' w1 hown' hgrow _ hat
    have P := Lib.hid (PW.out v' w1 hown' hgrow (by simpa using hat))
    clear hown' hgrow hat
    obtain ⟨na, nc, rfl⟩ := P.out.form
    have d1 : w1.cell? ⟨B, 0, none⟩ = some (.slice va pre.length vc) := P.out.box1.cell
    have f1 : w1.frozen? ⟨B, 0, none⟩ = false := P.out.box1.frozen
    clear c1
    go_wp2_with fail
    rw [HFF.out]
    refine ⟨_, ⟨_, rfl, P.out.list, P.out.box, HBL.out.trans (P.out.keeps.below (by have := HBL.out.size; rw [HB.out] at this; exact this) (fun k e => ?_)), fun b hb => ?_, fun x hx q hq => ?_⟩, P.out.keeps, fun b hb => ?_⟩
    · rcases e with e | e
      · omega
      · exact (HU.out.own.lt k e).1
    · rcases P.out.own b hb with h | h
      · exact HOW.out _ h
      · omega
    · rcases List.mem_append.1 hx with hx | hx
      · exact HOLD.out x hx q hq
      · obtain rfl := List.mem_singleton.1 hx
        exact (HX.out.2.2 q hq).2.1
    · rcases hb with h | h
      · exact .inl (.inl h)
      · rcases P.out.own b h with h | h
        · exact .inl (.inr h)
        · exact .inr h
  case hdone =>
    rintro D' xs F X hD' hS ⟨v, hF, hU, hb2, hbl, hown, hold⟩ hdef
    rw [HD.out] at hD'
    subst hD'
    obtain ⟨va, vc, rfl, hrr⟩ := hU.rrow
    have c1 : X.cell? ⟨B, 0, none⟩ = some (.slice va xs.length vc) := hb2.cell
    have HBL := Lib.hid hbl
    have HSS := Lib.hid hS
    have HU := Lib.hid hU
    have HOW := Lib.hid hown
    have HOLD := Lib.hid hold
    clear hU hb2 hbl hown hold hrr hF hS
    go_wp2_with fail
    refine ⟨by simp, .inl ⟨_, _, rfl, run_takeDeferred hdef, ?_⟩⟩
    have kq := keeps_putObj (W := X) D' (.deferred none)
    have u2 := HU.out.keeps kq (fun b hb e => (HOW.out b hb).2.1 e) (fun x hx q hq e => by have := HOLD.out x hx q hq; omega)
    obtain ⟨va', vc', hv', hrr⟩ := u2.rrow
    cases hv'
    have hbw : Below w.heap.size w (X.putObj D' (.deferred none)) := by
      rw [HB.out]
      exact HBL.out.trans (kq.below (by have := HBL.out.size; rw [HB.out] at this; exact this) (fun k e => by omega))
    exact ⟨_, results_tmp rfl _ _ _, va, vc, xs, rfl, hrr, hbw, HSS.out.1⟩
  case hstop => rintro D' c xs X hD' hS h; exact h.elim
theorem collect_calls {w : World} (Bp : Nat) (sa : Option Addr) (cap wd : Nat) (segs : List (Option Addr × List (List Int))) (hE : ∀ W, Below w.heap.size w W → REnv W Bp sa segs.length cap wd segs) (hwd : wd ≤ 1000) (hT : (segs.flatMap Prod.snd).length ≤ 1000) (hn : segs.length ≤ 1000) :
    Calls Try.prog 75 #[.func (.func 61) #[] #[.pointer (some ⟨Bp, 0, none⟩)]] w (CollRet (segs.flatMap Prod.snd) w) := by
  have ca := appendSeq_calls Bp sa cap wd segs hE hwd hT hn
  clear hE
  go_enter Try.func75, Try.ntmps75
  go_wp2_with fail
  refine ca.mono ?_
  rintro e w2 ⟨a, c, K, rfl, h⟩
  have F := Lib.hid (show CollRet (segs.flatMap Prod.snd) w (.returned (.slice a K.length c)) w2 from ⟨a, c, K, rfl, h⟩)
  clear h ca
  go_wp2_with fail
  go_ret
  exact F.out
/-- merge.All. -/
def MadeRet (w : World) (wd : Nat) (rs : List (List Int)) (e : Ending) (w' : World) : Prop := ∃ q, e = .returned (.pointer q) ∧ (∀ W, Later w.heap.size w' W → Seg W q wd rs) ∧ Below w.heap.size w w'
theorem Later.more {L L' : Nat} {w W : World} (h : Later L w W) (hl : L ≤ L') : Later L' w W := ⟨h.1, fun k h1 h2 => h.2 k (by omega) h2⟩
set_option maxRecDepth 100000 in
theorem mergeAll_calls {w : World} (ad : Addr) (cap wd : Nat) (segs : List (Option Addr × List (List Int))) (hp : PRow' w (some ad) (segs.map Prod.fst)) (hseg : ∀ s ∈ segs, Seg w s.1 wd s.2) (hwd : wd ≤ 1000) (hT : (segs.flatMap Prod.snd).length ≤ 1000) (hn : segs.length ≤ 1000) :
    Calls Try.prog 51 #[.int .i64 wd, .slice (some ad) segs.length cap] w (MadeRet w wd (relOf wd (segs.flatMap Prod.snd))) := by
  have cr := rows_calls ad cap (segs.map Prod.fst) w hp (by simp; omega)
  rw [List.length_map] at cr
  have HS := Lib.hid hseg
  clear hp hseg
  go_enter Try.func51, Try.ntmps51
  go_wp2_with fail
  refine cr.mono ?_
  rintro e w2 ⟨Bp, ca, cc, rfl, h1, h2, ⟨h3, h4⟩, h5⟩
  rw [List.length_map] at h1
  have cl := collect_calls (w := w2) Bp ca cc wd segs (fun W hW => ⟨(hW.cell (p := ⟨Bp, 0, none⟩) (World.block_lt_of_cell? w2 ⟨Bp, 0, none⟩ h1)).trans h1, h2.below hW, fun s hs => ((HS.out s hs).below h5).below hW⟩) hwd hT hn
  have B2 := Lib.hid h5
  have LE : Hid (∀ s ∈ segs, ∀ r ∈ s.2, r.length = wd) := Lib.hid (fun s hs r hr => (HS.out s hs).2.1 r hr)
  clear h1 h2 h3 h4 h5 cr
  go_wp2_with fail
  refine cl.mono ?_
  rintro e w3 ⟨ka, kc, K, rfl, hr, hb, hpm⟩
  have hKl : K.length ≤ 1000 := by have := hpm.length_eq; rw [List.length_map] at this; omega
  have cm := make_later wd ka kc K w3 hr hwd hKl (fun x hx => by
    have h1 : x.2.1 ∈ segs.flatMap Prod.snd := hpm.symm.subset (List.mem_map_of_mem hx)
    obtain ⟨s, hs, h2⟩ := List.mem_flatMap.1 h1
    have := LE.out s hs _ h2; omega)
  have hrel : relOf (wd : Int) (K.map (·.2.1)) = relOf (wd : Int) (segs.flatMap Prod.snd) := sorted_ext (rel_sorted _ _) (rel_sorted _ _) (fun x => by rw [mem_rel, mem_rel, hpm.mem_iff])
  rw [hrel] at cm
  have B3 := Lib.hid (B2.out.trans (hb.mono B2.out.size))
  clear hr hb hpm hrel cl
  go_wp2_with fail
  refine cm.mono ?_
  rintro e w4 ⟨q, rfl, hl, hb4⟩
  have F := Lib.hid (show MadeRet w wd (relOf wd (segs.flatMap Prod.snd)) (.returned (.pointer q)) w4 from ⟨q, rfl, fun W hW => hl W (hW.more B3.out.size), B3.out.trans (hb4.mono B3.out.size)⟩)
  clear hl hb4 cm
  go_wp2_with fail
  go_ret
  exact F.out
end Go.Proofs.Ytepkmhcchmladaa

/- All rows of a store. -/
namespace Go.Proofs.Ytepkmhcchmladaa
open Go.RowKit Go.Maps
set_option linter.unusedVariables false
set_option linter.unusedSimpArgs false

/-- The rows of runs. -/
def fullR (wd : Nat) (segs : List SP) : List (List Int) := relOf (wd : Int) (segs.flatMap Prod.snd)
def FullRet (G : Nat → Prop) (w : World) (wd : Nat) (rs : List (List Int)) (e : Ending) (w' : World) : Prop := ∃ q, e = .returned (.pointer q) ∧ SegN G w' wd (q, rs) ∧ Below w.heap.size w w'
theorem full_cons {wd : Nat} {s : SP} {segs : List SP} (hs : SortedR s.2) (hw : ∀ r ∈ s.2, r.length = wd) : orR s.2 (fullR wd segs) = fullR wd (s :: segs) := by
  unfold fullR
  refine sorted_ext (or_sorted hs _) (rel_sorted _ _) (fun x => ?_)
  rw [mem_or hs, mem_rel, mem_rel, List.flatMap_cons, List.mem_append]
  constructor
  · rintro (h | ⟨h1, h2⟩)
    · exact ⟨.inl h, by have := hw x h; omega⟩
    · exact ⟨.inr h1, h2⟩
  · rintro ⟨h | h, h2⟩
    · exact .inl h
    · exact .inr ⟨h, h2⟩
theorem prow_tail {w : World} {b off : Nat} {p : Option Addr} {ps : List (Option Addr)} (h : PRow' w (some ⟨b, off, none⟩) (p :: ps)) : w.cell? ⟨b, off, none⟩ = some (.pointer p) ∧ PRow' w (some ⟨b, off + 1, none⟩) ps ∧ b < w.heap.size := by
  rcases h with h0 | ⟨b', off', ha, hlt, hc⟩
  · cases h0
  · cases ha
    refine ⟨by have := hc 0 (by simp); simpa using this, ?_, hlt⟩
    by_cases h0 : ps = []
    · exact .inl h0
    · refine .inr ⟨b, off + 1, rfl, hlt, fun i hi => ?_⟩
      have := hc (i + 1) (by simp; omega)
      rw [show off + 1 + i = off + (i + 1) by omega, this]; simp
theorem heldF {E g rb ro n rc : Nat} {wd : Nat} {p : Option Addr} {w W W' : World} (hg : g < E) (hr : rb < E) (h : W.cell? ⟨g, 0, none⟩ = some (.int .i64 wd) ∧ W.cell? ⟨g, 2, none⟩ = some (.slice (some ⟨rb, ro, none⟩) (n + 1) rc) ∧ W.cell? ⟨rb, ro, none⟩ = some (.pointer p) ∧ Below E w W) (hb : Below E W W') :
    W'.cell? ⟨g, 0, none⟩ = some (.int .i64 wd) ∧ W'.cell? ⟨g, 2, none⟩ = some (.slice (some ⟨rb, ro, none⟩) (n + 1) rc) ∧ W'.cell? ⟨rb, ro, none⟩ = some (.pointer p) ∧ Below E w W' :=
  ⟨(hb.cell (p := ⟨g, 0, none⟩) hg).trans h.1, (hb.cell (p := ⟨g, 2, none⟩) hg).trans h.2.1, (hb.cell (p := ⟨rb, ro, none⟩) hr).trans h.2.2.1, h.2.2.2.trans hb⟩
set_option maxRecDepth 100000 in
set_option maxHeartbeats 4000000 in
theorem full_calls {N G : Nat → Prop} {w : World} {g wd : Nat} {most : Int} {segs : List SP} {d : SP} {rv kv : Value} {K : List (List Int)} (h : StK N G w g wd most segs d rv kv K) (hwd : wd ≤ 1000) (hT : (segs.flatMap Prod.snd).length ≤ 1000) (hn : segs.length ≤ 1000) :
    Calls Try.prog 23 #[.pointer (some ⟨g, 0, none⟩)] w (FullRet G w wd (fullR wd segs)) := by
  obtain ⟨c0, _, c2, _⟩ := h.cells
  obtain ⟨ra, rc, rfl, hp, hne⟩ := h.ptrs
  have HLT := Lib.hid h.lt
  have hgl := (Array.getElem?_eq_some_iff.1 h.blk).1
  have HSN := Lib.hid h.seg
  have RC : Hid (segs.length ≤ rc) := Lib.hid (owns_cap h.runs)
  clear h
  cases segs with
  | nil =>
    have cm := make_later wd none 0 [] w ⟨.inl rfl, fun x hx => by cases hx⟩ hwd (by simp) (fun x hx => by cases hx)
    have hrel : relOf (wd : Int) (([] : List RV).map (·.2.1)) = [] := rfl
    rw [hrel] at cm
    clear hp hne RC
    simp only [List.length_nil] at c2
    go_enter Try.func23, Try.ntmps23
    go_wp2_with fail
    refine cm.mono ?_
    rintro e w2 ⟨q, rfl, hl, hb⟩
    have F := Lib.hid (show FullRet G w wd (fullR wd []) (.returned (.pointer q)) w2 from ⟨q, rfl, SegN.new (s := (q, [])) hl HLT.out, hb⟩)
    clear hl hb cm
    go_wp2_with fail
    go_ret
    exact F.out
  | cons s segs =>
    obtain ⟨q0, rfl⟩ := hne (by simp)
    obtain ⟨rb, ro, hq⟩ : ∃ rb ro, q0 = ⟨rb, ro, none⟩ := by
      rcases hp with h0 | ⟨b, off, ha, _⟩
      · simp at h0
      · cases ha; exact ⟨_, _, rfl⟩
    subst hq
    rw [List.map_cons] at hp
    obtain ⟨d0, htl, hrl⟩ := prow_tail hp
    have HTL := Lib.hid htl
    obtain ⟨E, hE⟩ : ∃ E, w.heap.size = E := ⟨_, rfl⟩
    have HE := Lib.hid hE
    rw [hE] at hgl hrl
    obtain ⟨n, hn'⟩ : ∃ n, segs.length = n := ⟨_, rfl⟩
    have HN := Lib.hid hn'
    rw [List.length_cons, hn'] at c2 hn
    have hrc : n + 1 ≤ rc := by have := RC.out; rw [List.length_cons, hn'] at this; exact this
    clear hp htl hne hE hn' RC
    have t0 : ((n : Int) + 1 == 0) = false := beq_eq_false_iff_ne.2 (by omega)
    have t1 : (0 : Int) < (n : Int) + 1 := by omega
    have q2 : (1 : Int) ≤ (n : Int) + 1 := by omega
    have q3 : (n : Int) + 1 ≤ (rc : Int) := by omega
    have q4 : (1 : Int) ≤ (rc : Int) := by omega
    have q5 : 1 ≤ n + 1 := by omega
    have MA : Hid (∀ W ad c, Below E w W → PRow' W (some ad) (segs.map Prod.fst) → Calls Try.prog 51 #[.int .i64 wd, .slice (some ad) n c] W (MadeRet W wd (fullR wd segs))) := Lib.hid (fun W ad c hW hP => by
      have hfl : (segs.flatMap Prod.snd).length ≤ 1000 := by rw [List.flatMap_cons, List.length_append] at hT; omega
      have := mergeAll_calls (w := W) ad c wd segs hP (fun t ht => (HSN.out t (List.mem_cons_of_mem _ ht)).seg.below (by rw [HE.out]; exact hW)) hwd hfl (by rw [HN.out]; omega)
      rw [HN.out] at this; exact this)
    have OR : Hid (∀ W q, Below E w W → Seg W q wd (fullR wd segs) → Calls Try.prog 29 #[.pointer s.1, .pointer q] W (SegOp W [(s.1, s.2), (q, fullR wd segs)] wd (orR s.2 (fullR wd segs)))) := Lib.hid (fun W q hW hQ => by
      have hfl : s.2.length + (segs.flatMap Prod.snd).length ≤ 1000 := by rw [List.flatMap_cons, List.length_append] at hT; omega
      have hl : (fullR wd segs).length ≤ (segs.flatMap Prod.snd).length := rel_len _ _
      exact orL_calls ((HSN.out s List.mem_cons_self).seg.below (by rw [HE.out]; exact hW)) hQ hwd (by omega))
    have FIN : Hid (∀ W4 W5 q4 q5, Below E w W4 → (∀ W, Later E W4 W → Seg W q4 wd (fullR wd segs)) → Below W4.heap.size W4 W5 → Seg W5 q5 wd (orR s.2 (fullR wd segs)) → ((q5, orR s.2 (fullR wd segs)) ∈ [(s.1, s.2), (q4, fullR wd segs)] ∨ ∀ W, Later W4.heap.size W5 W → Seg W q5 wd (orR s.2 (fullR wd segs))) → FullRet G w wd (fullR wd (s :: segs)) (.returned (.pointer q5)) W5) := Lib.hid (fun W4 W5 q4 q5 h1 h2 h3 h4 h5 => by
      have hs := HSN.out s List.mem_cons_self
      have e1 := full_cons (segs := segs) hs.seg.1 hs.seg.2.1
      refine ⟨q5, rfl, ?_, by rw [HE.out]; exact h1.trans (h3.mono (by have := h1.size; rw [HE.out] at this; exact this))⟩
      rw [← e1]
      refine SegN.op (w := W4) (fun t ht => ?_) (fun b hb => Nat.lt_of_lt_of_le (HLT.out b hb) h1.size) h3 h5
      rcases List.mem_cons.1 ht with rfl | ht
      · exact hs.below (by rw [HE.out]; exact h1)
      · obtain rfl := List.mem_singleton.1 ht
        exact ⟨E, W4, h2, Later.refl _ _, fun b hb => .inl (by rw [← HE.out]; exact HLT.out b hb)⟩)
    by_cases hr1 : rc = 1
    · obtain rfl : n = 0 := by omega
      have hsg : segs = [] := List.eq_nil_of_length_eq_zero HN.out
      have HSG := Lib.hid hsg
      subst hr1
      clear hsg
      have MA0 : Hid (∀ W ad c, Below E w W → Calls Try.prog 51 #[.int .i64 wd, .slice (some ad) 0 c] W (MadeRet W wd (fullR wd segs))) := Lib.hid (fun W ad c hW => MA.out W ad c hW (by rw [HSG.out]; exact .inl rfl))
      go_enter Try.func23, Try.ntmps23
      go_wp2_with fail
      have s1 : Below E w w := Below.refl _ _
      go_region_held3 (fun w' => w'.cell? ⟨g, 0, none⟩ = some (.int .i64 wd) ∧ w'.cell? ⟨g, 2, none⟩ = some (.slice (some ⟨rb, ro, none⟩) (0 + 1) 1) ∧ w'.cell? ⟨rb, ro, none⟩ = some (.pointer s.1) ∧ Below E w w')
        (first | (exact ⟨c0, c2, d0, s1.drew⟩) | (exact heldF hgl hrl ‹_ ∧ _ ∧ _ ∧ _› (Below.mono ‹Below _ _ _› (by have h9 := (And.right (And.right (And.right ‹_ ∧ _ ∧ _ ∧ Below E w _›))).size; rw [HE.out] at h9; exact h9))))
        (first
          | (go_at_call 51; (with_reducible refine (MA0.out _ _ _ (And.right (And.right (And.right ‹_ ∧ _ ∧ _ ∧ Below E w _›)))).mono ?_); rintro e w4 ⟨q4, rfl, hl4, hb4⟩)
          | (go_at_call 29; (with_reducible refine (OR.out _ _ (And.right (And.right (And.right ‹_ ∧ _ ∧ _ ∧ Below E w _›))) (hl4 _ (Later.refl _ _))).mono ?_); rintro e w5 ⟨q5, rfl, hs5, hb5, hc5⟩))
      go_wp2_with fail
      go_ret
      exact FIN.out _ _ _ _ (s1.drew.trans (hb4.mono (by have := s1.drew.size; rw [HE.out] at this; exact this))) (fun W hW => hl4 W (hW.more (by have := s1.drew.size; rw [HE.out] at this; exact this))) hb5 hs5 hc5
    · go_enter Try.func23, Try.ntmps23
      go_wp2_with fail
      have s1 : Below E w w := Below.refl _ _
      go_region_held3 (fun w' => w'.cell? ⟨g, 0, none⟩ = some (.int .i64 wd) ∧ w'.cell? ⟨g, 2, none⟩ = some (.slice (some ⟨rb, ro, none⟩) (n + 1) rc) ∧ w'.cell? ⟨rb, ro, none⟩ = some (.pointer s.1) ∧ Below E w w')
        (first | (exact ⟨c0, c2, d0, s1.drew⟩) | (exact heldF hgl hrl ‹_ ∧ _ ∧ _ ∧ _› (Below.mono ‹Below _ _ _› (by have h9 := (And.right (And.right (And.right ‹_ ∧ _ ∧ _ ∧ Below E w _›))).size; rw [HE.out] at h9; exact h9))))
        (first
          | (go_at_call 51; (with_reducible refine (MA.out _ _ _ (And.right (And.right (And.right ‹_ ∧ _ ∧ _ ∧ Below E w _›))) (HTL.out.below (by rw [HE.out]; exact And.right (And.right (And.right ‹_ ∧ _ ∧ _ ∧ Below E w _›))))).mono ?_); rintro e w4 ⟨q4, rfl, hl4, hb4⟩)
          | (go_at_call 29; (with_reducible refine (OR.out _ _ (And.right (And.right (And.right ‹_ ∧ _ ∧ _ ∧ Below E w _›))) (hl4 _ (Later.refl _ _))).mono ?_); rintro e w5 ⟨q5, rfl, hs5, hb5, hc5⟩))
      go_wp2_with fail
      go_ret
      exact FIN.out _ _ _ _ (s1.drew.trans (hb4.mono (by have := s1.drew.size; rw [HE.out] at this; exact this))) (fun W hW => hl4 W (hW.more (by have := s1.drew.size; rw [HE.out] at this; exact this))) hb5 hs5 hc5
end Go.Proofs.Ytepkmhcchmladaa
