import Derived.RangeFuncNested
import Derived.RangeFuncBound
import Derived.RangeFuncCalls
import Derived.RangeFuncLeaves
import Derived.RangeFuncBox
import Derived.Shelf.Abstract
import Derived.OwnWalkIn
import Derived.TacticsInMore
import Derived.LoopNIn
import Derived.LoopIn
import Derived.Deep.RegionHeld3
import Derived.Test.YtepkmhcchmladaaUl
import Derived.StillTailTactics
/- A region that draws its order, inside a round of a range over a function: by the laws of plain regions. -/
namespace Go.Proofs.Ytepkmhcchmladaa
open Go.RowKit Go.Shelf
set_option linter.unusedVariables false
set_option linter.unusedSimpArgs false

/-- One operation of a round, by what is known of it outside every round. -/
theorem wpIn_of_wp_round {P : Program} {o : Oper} {a : Act} {w : World} {K : Act → World → Prop} {Q : Exit → Act → World → Prop} (l n : Nat) (hnd : ∀ c, o.op ≠ .defer c) (h : o.wp P a w K Q) : o.wpIn (Fence.wide.inRound l) n P a w K Q := by
  refine ⟨fun _ _ => trivial, ?_⟩
  have e : o.semAt (Fence.wide.inRound l).round a.eval = execOp a.eval o := Oper.semAt_some l _ _ hnd
  rw [e]
  unfold Oper.wp at h
  generalize (execOp a.eval o).run P w = r at h ⊢
  cases r with
  | ok x w' =>
    cases x with
    | value v => exact h
    | skip => exact h
    | defer d => exact h
    | enter f args => exact ⟨(fun hd => by cases hd), callsIn_wide.2 h⟩
    | row r' args => exact ⟨(fun hd => by cases hd), fun c cs _ => let ⟨v, w', r, s⟩ := h c cs; ⟨v, w', r, stepsIn_wide.2 s⟩⟩
    | _ => exact h.elim
  | halt x w' => cases x <;> first | exact h | exact h.elim
theorem anyIn_of_any {P : Program} {md : Region.Mode} {ops : Array Oper} {Q : Exit → Act → World → Prop} (l n : Nat) (hnd : ∀ (i : Nat) (o : Oper), ops[i]? = some o → ∀ c, o.op ≠ .defer c) (hLO : ¬ LetsOut Q) :
    ∀ (fuel : Nat) (listed : Array Bool) (a : Act) (w : World), wpAny P md ops Q fuel listed a w → wpAnyIn (Fence.wide.inRound l) n P md ops Q fuel listed a w := by
  intro fuel
  induction fuel with
  | zero => intro listed a w h; exact h
  | succ fuel ih =>
    intro listed a w h
    refine ⟨h.1, fun i hi => ?_⟩
    have h2 := h.2 i hi
    unfold wpOp at h2
    unfold wpOpIn
    cases ho : ops[i]? with
    | none => rw [ho] at h2; exact ih _ _ _ h2
    | some o =>
      rw [ho] at h2
      simp only at h2 ⊢
      split
      · rename_i hw
        rw [if_pos hw] at h2
        rcases h2 with h2 | h2
        · exact Oper.wpIn_mono (fun a w h => ih _ a w h) (wpIn_of_wp_round l n (hnd i o ho) h2)
        · exact absurd h2.2 hLO
      · rename_i hw
        rw [if_neg hw] at h2
        exact ⟨fun _ _ => trivial, ih _ _ _ h2⟩
/-- A region that draws, in a round: from its walk under S, as outside every round. -/
theorem region_round {P : Program} {id : Nat} {ops : Array Oper} {Q : Exit → Act → World → Prop} {S : World → Prop} {a : Act} {w : World} (l n : Nat) (hm : P.follows .mixedOrders = true) (hnd : ∀ (i : Nat) (o : Oper), ops[i]? = some o → ∀ c, o.op ≠ .defer c) (hLO : ¬ LetsOut Q) (hS : S w.drew)
    (h : S w.drew → wpAnyH P .any ops Q S ops.size (Array.replicate ops.size false) a w.drew) : (Code.region id ops true).wpIn (Fence.wide.inRound l) n P Q a w :=
  wpIn_region_any hm (anyIn_of_any l n hnd hLO _ _ _ _ (wpAny_of_held _ _ _ _ (h hS)))
end Go.Proofs.Ytepkmhcchmladaa

/- A range over a function whose elements lie in memory that the iterator makes: a law of our own, over what is known of an element when it is handed over. The body goes on in every round. -/
namespace Go.Proofs.Ytepkmhcchmladaa
open Go.RowKit Go.Shelf
set_option linter.unusedVariables false
set_option linter.unusedSimpArgs false

/-- All cells, and all that lies below B, lie as they lay. -/
structure KC (B : Nat) (W W' : World) : Prop where
  os : W'.os = W.os
  tape : W'.tape = W.tape
  output : W'.output = W.output
  size : W.heap.size ≤ W'.heap.size
  block : ∀ k, k < W.heap.size → (k < B ∨ ∃ o : Obj, W.heap[k]? = some o ∧ o.isCells = true) → W'.heap[k]? = W.heap[k]?
theorem KC.of_below {B : Nat} {W W' : World} (h : Below W.heap.size W W') : KC B W W' := ⟨h.os, h.tape, h.output, h.size, fun k hk _ => h.block k hk⟩
theorem KC.putObj {B : Nat} {W : World} {l : Nat} {o : Obj} (o' : Obj) (h : W.heap[l]? = some o) (ho : o.isCells = false) (hl : B ≤ l) : KC B W (W.putObj l o') := by
  have g := grownBy_putObj' W l o'
  refine ⟨g.os, g.tape, g.output, g.size, fun k hk hc => g.block k hk (fun e => ?_)⟩
  cases e
  rcases hc with hc | ⟨p, hp, hpc⟩
  · omega
  · rw [h] at hp; cases hp; rw [ho] at hpc; cases hpc
theorem KC.below {B : Nat} {w W W' : World} (h : KC B W W') (hb : Below B w W) (hB : B ≤ W.heap.size) : Below B w W' :=
  ⟨h.os.trans hb.os, h.tape.trans hb.tape, h.output.trans hb.output, Nat.le_trans hb.size h.size, fun k hk => (h.block k (by omega) (.inl hk)).trans (hb.block k hk)⟩
theorem KC.cell {B : Nat} {W W' : World} (h : KC B W W') {p : Addr} {v : Value} (hc : W.cell? p = some v) : W'.cell? p = some v := by
  have hl := World.block_lt_of_cell? W p hc
  rw [World.cell?_of_block (h.block p.block hl (.inr ?_))]
  · exact hc
  · obtain ⟨o, ho⟩ : ∃ o, W.heap[p.block]? = some o := ⟨_, Array.getElem?_eq_getElem hl⟩
    refine ⟨o, ho, ?_⟩
    cases o with
    | cells cs t fr => rfl
    | _ => simp [World.cell?, ho] at hc
/-- The body goes on. -/
def goesOn {α : Type} (I : List α → World → Prop) (xs : List α) (W : World) (e : Exit) (_ : Act) (W' : World) : Prop := e = .normal ∧ KeepsOthers W W' ∧ I xs W'
theorem goesOn_in {α : Type} (I : List α → World → Prop) (xs : List α) (W : World) : ¬ LetsOut (goesOn I xs W) := by
  rintro ⟨a, w, h, _⟩
  cases h

theorem range_loop {P : Program} {α : Type} {g : Operand} {ps : Array Tmp} {assign body : Code} {Q : Exit → Act → World → Prop} {a : Act} {w : World} {n gf : Nat} {lb : Array Value}
    (hg : a.eval g = .func (.func gf) #[] lb) (eg : ∀ args w, (callFunc gf args).run P w = .ok (.enter gf args) w) {encs : α → Array Value} (hps : ∀ x, (encs x).size = ps.size) {B : Nat} (hB : B ≤ w.heap.size)
    (R : List α → α → World → Prop) (I : List α → World → Prop) (S : List α → Prop)
    (hI : ∀ pre W W', I pre W → KC B W W' → I pre W') (hR : ∀ pre x W W', R pre x W → KC B W W' → R pre x W') (h0 : I [] w)
    (hiter : ∀ (l : Nat) (J : List α → World → Prop) (W : World), (∀ pre W, J pre W → I pre W) → (∀ pre W W', J pre W → Below W.heap.size W W' → J pre W') →
      (∀ pre x W1, J pre W1 → R pre x W1 → YieldAt Fence.wide (n - 1 - 1) P l (encs x) W1 fun e W' => e = .returned (.bool true) ∧ J (pre ++ [x]) W') → J [] W →
      CallsIn Fence.wide (n - 1) P gf (#[.func (.yield l) #[] #[]] ++ lb) W fun e W' => (∃ v, e = .returned v) ∧ ∃ xs, S xs ∧ J xs W')
    (a₁ : α → Act)
    (hassign : ∀ (l : Nat) (x : α) (W : World) (K : Act → World → Prop), K (a₁ x) W → assign.wpIn (Fence.wide.inRound l) (n - 1 - 1) P (Exit.then K (fun _ _ _ => False)) { tmps := (ps.zip (encs x)).foldl (fun t (p, v) => t.setIfInBounds p v) a.tmps, defers := [] } W)
    (hbody : ∀ (l : Nat) (pre : List α) (x : α) (W : World), I pre W → R pre x W → body.wpIn (Fence.wide.inRound l) (n - 1 - 1) P (goesOn I (pre ++ [x]) W) (a₁ x) W)
    (hdone : ∀ (D : Nat) (xs : List α) (W : World), w.heap.size ≤ D → S xs → I xs W → W.heap[D]? = some (.deferred (some [])) → Q .normal { a with defers := { target := .collected D, args := #[] } :: a.defers } W) :
    (Code.rangeFunc g ps assign body).wpIn Fence.wide n P Q a w := by
  refine wpIn_rangeFunc fun fn hfn => ?_
  obtain ⟨L0, hL0⟩ : ∃ L0 : Loop, L0 = { state := .ready, pending := none, fn := fn, tmps := a.tmps, params := ps, assign := assign, body := body, defers := w.heap.size } := ⟨_, rfl⟩
  obtain ⟨W1, hW1⟩ : ∃ W1, (w.alloc (.deferred (some []))).alloc (.loop L0) = W1 := ⟨_, rfl⟩
  have bW : Below w.heap.size w W1 := by rw [← hW1]; exact ((Below.refl _ w).alloc (Nat.le_refl _) _).alloc (by simp) _
  have rec1 : W1.heap[w.heap.size + 1]? = some (.loop L0) := by
    have := World.alloc_heap_new (w.alloc (.deferred (some []))) (.loop L0)
    rw [World.size_alloc] at this
    rw [← hW1]; exact this
  have def1 : W1.heap[w.heap.size]? = some (.deferred (some [])) := by
    rw [← hW1]
    exact (Below.heap_alloc _ _ w.heap.size (by simp)).trans (World.alloc_heap_new w _)
  refine ⟨w.heap.size + 1, [{ target := .collected w.heap.size, args := #[] }], W1, { target := .fn (.func gf) lb, args := #[.func (.yield (w.heap.size + 1)) #[] #[]] }, W1, gf, #[.func (.yield (w.heap.size + 1)) #[] #[]] ++ lb, W1, ?_, ?_, fun _ _ => trivial, ?_, (fun h => by cases h), ?_⟩
  · rw [← hW1, hL0]; exact run_enterLoop_outer _ _ _ _ _
  · simp only [resolve, hg]
    simp [go_sem]
  · simp [invoke, go_sem, eg]
  refine (hiter (w.heap.size + 1) (fun pre W => I pre W ∧ W.heap[w.heap.size + 1]? = some (.loop L0) ∧ W.heap[w.heap.size]? = some (.deferred (some []))) W1 (fun _ _ h => h.1) ?_ ?_ ⟨hI _ _ _ h0 (KC.of_below bW), rec1, def1⟩).mono ?_
  · rintro pre W W' ⟨h1, h2, h3⟩ hb
    exact ⟨hI _ _ _ h1 (KC.of_below hb), (hb.block _ (Array.getElem?_eq_some_iff.1 h2).1).trans h2, (hb.block _ (Array.getElem?_eq_some_iff.1 h3).1).trans h3⟩
  · rintro pre x W ⟨h1, h2, h3⟩ hx
    have hy := run_yield (P := P) (args := encs x) h2 (by rw [hL0]; exact hps x)
    have hf : L0.fn = fn := by rw [hL0]
    have ht : L0.tmps = a.tmps := by rw [hL0]
    have hp : L0.params = ps := by rw [hL0]
    have ha : L0.assign = assign := by rw [hL0]
    have hbd : L0.body = body := by rw [hL0]
    have hst : L0.state = .ready := by rw [hL0]
    have hpe : L0.pending = none := by rw [hL0]
    have hlt : w.heap.size + 1 < W.heap.size := (Array.getElem?_eq_some_iff.1 h2).1
    rw [hf, ht, hp, ha, hbd] at hy
    refine ⟨fn, _, assign, body, hy, roundIn_of_wpIn hfn (hassign _ x W _ ⟨_, run_beginRound h2 hst, ?_⟩)⟩
    obtain ⟨L1, hL1⟩ : ∃ L1 : Loop, { L0 with state := .busy } = L1 := ⟨_, rfl⟩
    have kc : KC B W (W.putObj (w.heap.size + 1) (.loop L1)) := KC.putObj _ h2 rfl (by omega)
    have e1 : (W.putObj (w.heap.size + 1) (.loop L1)).heap[w.heap.size + 1]? = some (.loop L1) := World.putObj_heap_same hlt
    have e2 : (W.putObj (w.heap.size + 1) (.loop L1)).heap[w.heap.size]? = some (.deferred (some [])) := (World.putObj_heap_other (by omega)).trans h3
    have hbw := hbody (w.heap.size + 1) pre x _ (hI _ _ _ h1 kc) (hR _ _ _ _ hx kc)
    rw [← hL1] at hbw e1 e2
    refine wpIn_mono hbw ?_
    rintro e a3 W3 ⟨rfl, hk3, hi3⟩
    have f1 := hk3.same _ _ e1 rfl
    have f2 := hk3.same _ _ e2 rfl
    have hr := run_endRound (P := P) none f1
    have hl3 : w.heap.size + 1 < W3.heap.size := (Array.getElem?_eq_some_iff.1 f1).1
    have hback : ({ state := if (none : Option Code).isNone = true then LoopState.ready else LoopState.done, pending := none, fn := L0.fn, tmps := L0.tmps, params := L0.params, assign := L0.assign, body := L0.body, defers := L0.defers } : Loop) = L0 := by rw [hL0]; rfl
    refine ⟨_, _, hr, rfl, hI _ _ _ hi3 (KC.putObj _ f1 rfl (by omega)), ?_, (World.putObj_heap_other (by omega)).trans f2⟩
    rw [World.putObj_heap_same hl3]
    exact congrArg (fun x => some (Obj.loop x)) hback
  · rintro e W2 ⟨⟨v, rfl⟩, xs, hS, h1, h2, h3⟩
    have hend := run_endLoop (P := P) h2 (by rw [hL0]; simp)
    rw [show L0.pending = none by rw [hL0]] at hend
    exact ⟨none, _, hend, hdone _ xs _ (Nat.le_refl _) hS (hI _ _ _ h1 (KC.putObj _ h2 rfl (by omega))) ((World.putObj_heap_other (by omega)).trans h3)⟩
end Go.Proofs.Ytepkmhcchmladaa

/- A range over a function whose body may turn maps: only the loop's own record is asked to stay. And a drawn region in a round: reads first, then a call that writes. -/
namespace Go.Proofs.Ytepkmhcchmladaa
open Go.RowKit Go.Shelf
set_option linter.unusedVariables false
set_option linter.unusedSimpArgs false

theorem grown_of_below {W W' : World} (h : Below W.heap.size W W') (r : Option Nat) : W.grownBy W' r := ⟨h.os, h.tape, h.output, h.size, fun k hk _ => h.block k hk⟩
theorem Row.loop {X X' : World} {a : Option Addr} {zs : List Int} {r : Nat} {L : Loop} (h : Row X a zs) (hL : X.heap[r]? = some (.loop L)) (hg : X.grownBy X' (some r)) : Row X' a zs := by
  rcases h with rfl | ⟨b, off, rfl, hlt, hc⟩
  · exact .inl rfl
  · refine .inr ⟨b, off, rfl, Nat.lt_of_lt_of_le hlt hg.size, fun i hi => hg.cell (hc i hi) (fun e => ?_)⟩
    simp only [Option.some.injEq] at e
    have h1 := hc i hi
    subst e
    simp [World.cell?, hL] at h1
/-- The body goes on; the loop's records lie as they lay. -/
def goesOn2 {α : Type} (w : World) (I : List α → World → Prop) (xs : List α) (W : World) (e : Exit) (_ : Act) (W' : World) : Prop := e = .normal ∧ W'.heap[w.heap.size]? = W.heap[w.heap.size]? ∧ W'.heap[w.heap.size + 1]? = W.heap[w.heap.size + 1]? ∧ I xs W'
theorem goesOn2_in {α : Type} (w : World) (I : List α → World → Prop) (xs : List α) (W : World) : ¬ LetsOut (goesOn2 w I xs W) := by
  rintro ⟨a, w, h, _⟩
  cases h

theorem range_loop2 {P : Program} {α : Type} {g : Operand} {ps : Array Tmp} {assign body : Code} {Q : Exit → Act → World → Prop} {a : Act} {w : World} {n gf : Nat} {lb : Array Value}
    (hg : a.eval g = .func (.func gf) #[] lb) (eg : ∀ args w, (callFunc gf args).run P w = .ok (.enter gf args) w) {encs : α → Array Value} (hps : ∀ x, (encs x).size = ps.size)
    (R : List α → α → World → Prop) (I : List α → World → Prop) (S : List α → Prop)
    (hI : ∀ pre W W', I pre W → W.grownBy W' (some (w.heap.size + 1)) → I pre W') (hR : ∀ pre x W W' L, R pre x W → W.heap[w.heap.size + 1]? = some (.loop L) → W.grownBy W' (some (w.heap.size + 1)) → R pre x W') (h0 : I [] w)
    (hiter : ∀ (l : Nat) (J : List α → World → Prop) (W : World), (∀ pre W, J pre W → I pre W) → (∀ pre W W', J pre W → Below W.heap.size W W' → J pre W') →
      (∀ pre x W1, J pre W1 → R pre x W1 → YieldAt Fence.wide (n - 1 - 1) P l (encs x) W1 fun e W' => e = .returned (.bool true) ∧ J (pre ++ [x]) W') → J [] W →
      CallsIn Fence.wide (n - 1) P gf (#[.func (.yield l) #[] #[]] ++ lb) W fun e W' => (∃ v, e = .returned v) ∧ ∃ xs, S xs ∧ J xs W')
    (a₁ : α → Act)
    (hassign : ∀ (l : Nat) (x : α) (W : World) (K : Act → World → Prop), K (a₁ x) W → assign.wpIn (Fence.wide.inRound l) (n - 1 - 1) P (Exit.then K (fun _ _ _ => False)) { tmps := (ps.zip (encs x)).foldl (fun t (p, v) => t.setIfInBounds p v) a.tmps, defers := [] } W)
    (hbody : ∀ (l : Nat) (pre : List α) (x : α) (W : World), w.heap.size + 2 ≤ W.heap.size → I pre W → R pre x W → body.wpIn (Fence.wide.inRound l) (n - 1 - 1) P (goesOn2 w I (pre ++ [x]) W) (a₁ x) W)
    (hdone : ∀ (D : Nat) (xs : List α) (W : World), D = w.heap.size → S xs → I xs W → W.heap[D]? = some (.deferred (some [])) → Q .normal { a with defers := { target := .collected D, args := #[] } :: a.defers } W) :
    (Code.rangeFunc g ps assign body).wpIn Fence.wide n P Q a w := by
  refine wpIn_rangeFunc fun fn hfn => ?_
  obtain ⟨L0, hL0⟩ : ∃ L0 : Loop, L0 = { state := .ready, pending := none, fn := fn, tmps := a.tmps, params := ps, assign := assign, body := body, defers := w.heap.size } := ⟨_, rfl⟩
  obtain ⟨W1, hW1⟩ : ∃ W1, (w.alloc (.deferred (some []))).alloc (.loop L0) = W1 := ⟨_, rfl⟩
  have bW : Below w.heap.size w W1 := by rw [← hW1]; exact ((Below.refl _ w).alloc (Nat.le_refl _) _).alloc (by simp) _
  have rec1 : W1.heap[w.heap.size + 1]? = some (.loop L0) := by
    have := World.alloc_heap_new (w.alloc (.deferred (some []))) (.loop L0)
    rw [World.size_alloc] at this
    rw [← hW1]; exact this
  have def1 : W1.heap[w.heap.size]? = some (.deferred (some [])) := by
    rw [← hW1]
    exact (Below.heap_alloc _ _ w.heap.size (by simp)).trans (World.alloc_heap_new w _)
  refine ⟨w.heap.size + 1, [{ target := .collected w.heap.size, args := #[] }], W1, { target := .fn (.func gf) lb, args := #[.func (.yield (w.heap.size + 1)) #[] #[]] }, W1, gf, #[.func (.yield (w.heap.size + 1)) #[] #[]] ++ lb, W1, ?_, ?_, fun _ _ => trivial, ?_, (fun h => by cases h), ?_⟩
  · rw [← hW1, hL0]; exact run_enterLoop_outer _ _ _ _ _
  · simp only [resolve, hg]
    simp [go_sem]
  · simp [invoke, go_sem, eg]
  refine (hiter (w.heap.size + 1) (fun pre W => I pre W ∧ W.heap[w.heap.size + 1]? = some (.loop L0) ∧ W.heap[w.heap.size]? = some (.deferred (some []))) W1 (fun _ _ h => h.1) ?_ ?_ ⟨hI _ _ _ h0 (grown_of_below bW _), rec1, def1⟩).mono ?_
  · rintro pre W W' ⟨h1, h2, h3⟩ hb
    exact ⟨hI _ _ _ h1 (grown_of_below hb _), (hb.block _ (Array.getElem?_eq_some_iff.1 h2).1).trans h2, (hb.block _ (Array.getElem?_eq_some_iff.1 h3).1).trans h3⟩
  · rintro pre x W ⟨h1, h2, h3⟩ hx
    have hy := run_yield (P := P) (args := encs x) h2 (by rw [hL0]; exact hps x)
    have hf : L0.fn = fn := by rw [hL0]
    have ht : L0.tmps = a.tmps := by rw [hL0]
    have hp : L0.params = ps := by rw [hL0]
    have ha : L0.assign = assign := by rw [hL0]
    have hbd : L0.body = body := by rw [hL0]
    have hst : L0.state = .ready := by rw [hL0]
    have hpe : L0.pending = none := by rw [hL0]
    have hlt : w.heap.size + 1 < W.heap.size := (Array.getElem?_eq_some_iff.1 h2).1
    rw [hf, ht, hp, ha, hbd] at hy
    refine ⟨fn, _, assign, body, hy, roundIn_of_wpIn hfn (hassign _ x W _ ⟨_, run_beginRound h2 hst, ?_⟩)⟩
    obtain ⟨L1, hL1⟩ : ∃ L1 : Loop, { L0 with state := .busy } = L1 := ⟨_, rfl⟩
    have kc : W.grownBy (W.putObj (w.heap.size + 1) (.loop L1)) (some (w.heap.size + 1)) := grownBy_putObj' W _ _
    have e1 : (W.putObj (w.heap.size + 1) (.loop L1)).heap[w.heap.size + 1]? = some (.loop L1) := World.putObj_heap_same hlt
    have e2 : (W.putObj (w.heap.size + 1) (.loop L1)).heap[w.heap.size]? = some (.deferred (some [])) := (World.putObj_heap_other (by omega)).trans h3
    have hbw := hbody (w.heap.size + 1) pre x _ (Nat.le_trans hlt kc.size) (hI _ _ _ h1 kc) (hR _ _ _ _ _ hx h2 kc)
    rw [← hL1] at hbw e1 e2
    refine wpIn_mono hbw ?_
    rintro e a3 W3 ⟨rfl, hk3, hk4, hi3⟩
    have f1 := hk4.trans e1
    have f2 := hk3.trans e2
    have hr := run_endRound (P := P) none f1
    have hl3 : w.heap.size + 1 < W3.heap.size := (Array.getElem?_eq_some_iff.1 f1).1
    have hback : ({ state := if (none : Option Code).isNone = true then LoopState.ready else LoopState.done, pending := none, fn := L0.fn, tmps := L0.tmps, params := L0.params, assign := L0.assign, body := L0.body, defers := L0.defers } : Loop) = L0 := by rw [hL0]; rfl
    refine ⟨_, _, hr, rfl, hI _ _ _ hi3 (grownBy_putObj' W3 _ _), ?_, (World.putObj_heap_other (by omega)).trans f2⟩
    rw [World.putObj_heap_same hl3]
    exact congrArg (fun x => some (Obj.loop x)) hback
  · rintro e W2 ⟨⟨v, rfl⟩, xs, hS, h1, h2, h3⟩
    have hend := run_endLoop (P := P) h2 (by rw [hL0]; simp)
    rw [show L0.pending = none by rw [hL0]] at hend
    exact ⟨none, _, hend, hdone _ xs _ rfl hS (hI _ _ _ h1 (grownBy_putObj' W2 _ _)) ((World.putObj_heap_other (by omega)).trans h3)⟩

/-- A drawn region whose first n operations only read: as wpAny. -/
theorem any_still_tail {P : Program} {Q : Exit → Act → World → Prop} {a : Act} {w : World} {l : List Oper} (n : Nat) (hB : Region.lexTailB .any l.toArray n = true)
    (h : wpStill P l.toArray { w with drawn := w.drawn + 1 } (fun a' => wpList P l.toArray Q (l.drop n) a' { w with drawn := w.drawn + 1 }) (l.take n) a) : wpAny P .any l.toArray Q l.toArray.size (Array.replicate l.toArray.size false) a { w with drawn := w.drawn + 1 } := by
  simp only [Region.lexTailB, Bool.and_eq_true, decide_eq_true_eq] at hB
  obtain ⟨⟨⟨⟨hsel, hn⟩, hs⟩, hc⟩, hlex⟩ := hB
  have hn' : n < l.length := by simpa using hn
  have htl : (l.take n).length = n := by simp; omega
  have hdl : (l.drop n).length = l.toArray.size - n := by simp
  have inv0 : HeadInv .any l.toArray n (Array.replicate l.toArray.size false) :=
    ⟨by simp, fun j oj _ hl => (by rw [getD_replicate_false] at hl; cases hl), fun t _ ht => getD_in (by simpa using ht) (getD_replicate_false _ _)⟩
  have H := wpAnyL_lex (md := .any) (g := l.toArray.size - n) hsel hs hc hn (l.take n) 0 _ a (fun j hj => by
    have hj' : j < n := by rw [htl] at hj; exact hj
    simp [hj']) (by simpa using htl) inv0 (by rw [htl]; exact hlex) h
  have := wpAny_of_head (Q' := Q) (g := l.toArray.size - n) (fun listed a' hL => by
    have := wpAny_of_seq (md := .any) (Q' := Q) (l.drop n) n listed a' { w with drawn := w.drawn + 1 } (fun j => by simp [List.getElem?_drop]) (by rw [hdl]; exact hL.1) hL.2
    rwa [hdl] at this) _ _ _ H
  rw [htl, show n + (l.toArray.size - n) = l.toArray.size by omega] at this
  exact this
/-- .. inside a round. -/
theorem round_still_tail {P : Program} {id : Nat} {Q : Exit → Act → World → Prop} {a : Act} {w : World} {l : List Oper} (lp m n : Nat) (hm : P.follows .mixedOrders = true) (hnd : ∀ o ∈ l, ∀ c, o.op ≠ .defer c) (hLO : ¬ LetsOut Q) (hB : Region.lexTailB .any l.toArray n = true)
    (h : wpStill P l.toArray { w with drawn := w.drawn + 1 } (fun a' => wpList P l.toArray Q (l.drop n) a' { w with drawn := w.drawn + 1 }) (l.take n) a) : (Code.region id l.toArray true).wpIn (Fence.wide.inRound lp) m P Q a w :=
  wpIn_region_any hm (anyIn_of_any lp m (fun i o ho c => hnd o (by have := Array.mem_of_getElem? ho; simpa using this) c) hLO _ _ _ _ (any_still_tail n hB h))
/-- A region that draws nothing, inside a round: as outside. -/
theorem listIn_of_list {P : Program} {ops : Array Oper} {Q : Exit → Act → World → Prop} (l n : Nat) (hLO : ¬ LetsOut Q) : ∀ (os : List Oper), (∀ o ∈ os, ∀ c, o.op ≠ .defer c) → ∀ (a : Act) (w : World), wpList P ops Q os a w → wpListIn (Fence.wide.inRound l) n P ops Q os a w
  | [], _, a, w, h => h
  | o :: os, hnd, a, w, h => by
    unfold wpList at h
    unfold wpListIn
    split
    · rename_i hw
      rw [if_pos hw] at h
      rcases h with h | h
      · exact Oper.wpIn_mono (fun a w h => listIn_of_list l n hLO os (fun x hx => hnd x (List.mem_cons_of_mem _ hx)) a w h) (wpIn_of_wp_round l n (hnd o (List.mem_cons_self ..)) h)
      · exact absurd h.2 hLO
    · rename_i hw
      rw [if_neg hw] at h
      exact ⟨fun _ _ => trivial, listIn_of_list l n hLO os (fun x hx => hnd x (List.mem_cons_of_mem _ hx)) _ _ h⟩
theorem round_plain {P : Program} {id : Nat} {Q : Exit → Act → World → Prop} {a : Act} {w : World} {l : List Oper} (lp m : Nat) (hnd : ∀ o ∈ l, ∀ c, o.op ≠ .defer c) (hLO : ¬ LetsOut Q) (h : wpList P l.toArray Q l a w) : (Code.region id l.toArray false).wpIn (Fence.wide.inRound lp) m P Q a w :=
  wpIn_region_lit (listIn_of_list lp m hLO l hnd a w h)
end Go.Proofs.Ytepkmhcchmladaa

/- A range over a function, told with footprints: the iterator may turn memory of its own between two rounds (a heap), the body memory of its own; and the body may leave. -/
namespace Go.Proofs.Ytepkmhcchmladaa
open Go.RowKit Go.Shelf
set_option linter.unusedVariables false
set_option linter.unusedSimpArgs false

theorem keeps_putObj {W : World} (l : Nat) (o : Obj) : Keeps (fun b => b = l) W (W.putObj l o) := Keeps.of_grown (grownBy_putObj' W l o) (fun k e => by cases e; rfl)
/-- What a round leaves: it goes on, only blocks of F have turned; or it is left. -/
def RPost {α : Type} (D : Nat) (I : List α → (Nat → Prop) → World → Prop) (Ix : Code → List α → World → Prop) (F : Nat → Prop) (xs : List α) (W : World) : Exit → Act → World → Prop
  | .normal, _, W' => ∃ F', I xs F' W' ∧ Keeps F W W' ∧ ∀ b, F' b → F b ∨ W.heap.size ≤ b
  | .ret, _, W' => (W'.heap[D]? = W.heap[D]? ∧ W'.heap[D + 1]? = W.heap[D + 1]?) ∧ Ix .ret xs W'
  | .exit id, _, W' => (W'.heap[D]? = W.heap[D]? ∧ W'.heap[D + 1]? = W.heap[D + 1]?) ∧ Ix (.exit id) xs W'
  | .goto t, _, W' => (W'.heap[D]? = W.heap[D]? ∧ W'.heap[D + 1]? = W.heap[D + 1]?) ∧ Ix (.goto t) xs W'
  | .panic _, _, _ => False
  | .outgrown, _, _ => False
theorem rpost_in {α : Type} (D : Nat) (I : List α → (Nat → Prop) → World → Prop) (Ix : Code → List α → World → Prop) (F : Nat → Prop) (xs : List α) (W : World) : ¬ LetsOut (RPost D I Ix F xs W) := fun ⟨_, _, h⟩ => h
/-- An iterator: whatever the body keeps beside it. -/
def IterIs {α : Type} (P : Program) (n gf : Nat) (lb : Array Value) (encs : α → Array Value) (R : List α → α → (Nat → Prop) → World → Prop) (off : α → Nat → Prop) (S Sp : List α → Prop) (A : Nat → Prop) (D : Nat) (W0 : World) : Prop :=
  ∀ (l : Nat) (J : List α → (Nat → Prop) → World → Prop) (Jx : List α → World → Prop) (F0 : Nat → Prop) (W : World), D + 2 ≤ W.heap.size → Below D W0 W →
    (∀ b, F0 b → A b) → (∀ pre F W', J pre F W' → ∀ b, F b → b < W'.heap.size) →
    (∀ pre F W W' N, J pre F W → Keeps N W W' → (∀ b, N b → ¬ F b ∧ D + 2 ≤ b ∧ ∀ x ∈ pre, off x b) → J pre F W') →
    (∀ pre F x W1, J pre F W1 → R pre x F W1 → YieldAt Fence.wide (n - 1) P l (encs x) W1 fun e W' =>
      (e = .returned (.bool true) ∧ ∃ F', J (pre ++ [x]) F' W' ∧ Keeps F W1 W' ∧ ∀ b, F' b → F b ∨ W1.heap.size ≤ b) ∨ (e = .returned (.bool false) ∧ Jx (pre ++ [x]) W')) →
    J [] F0 W →
    CallsIn Fence.wide n P gf (#[.func (.yield l) #[] #[]] ++ lb) W fun e W' => (∃ v, e = .returned v) ∧ ((∃ xs F, S xs ∧ J xs F W') ∨ (∃ pre, Sp pre ∧ Jx pre W'))

theorem range_loop3 {P : Program} {α : Type} {g : Operand} {ps : Array Tmp} {assign body : Code} {Q : Exit → Act → World → Prop} {a : Act} {w : World} {n gf : Nat} {lb : Array Value}
    (hg : a.eval g = .func (.func gf) #[] lb) (eg : ∀ args w, (callFunc gf args).run P w = .ok (.enter gf args) w) {encs : α → Array Value} (hps : ∀ x, (encs x).size = ps.size)
    (R : List α → α → (Nat → Prop) → World → Prop) (off : α → Nat → Prop) (S Sp : List α → Prop) (I : List α → (Nat → Prop) → World → Prop) (Ix : Code → List α → World → Prop) (F0 : Nat → Prop)
    (hIF : ∀ pre F W, I pre F W → ∀ b, F b → b < W.heap.size ∧ b ≠ w.heap.size ∧ b ≠ w.heap.size + 1)
    (hI : ∀ pre F W W' N, I pre F W → Keeps N W W' → (∀ b, N b → ¬ F b ∧ w.heap.size ≤ b ∧ ∀ x ∈ pre, off x b) → I pre F W')
    (hIx : ∀ c pre W W', Ix c pre W → (∀ x ∈ pre, off x (w.heap.size + 1)) → Keeps (fun b => b = w.heap.size + 1) W W' → Ix c pre W')
    (hRo : ∀ pre x F W, R pre x F W → off x (w.heap.size + 1))
    (hR : ∀ pre x F W W' L, R pre x F W → W.heap[w.heap.size + 1]? = some (.loop L) → Keeps (fun b => b = w.heap.size + 1) W W' → R pre x F W') (h0 : I [] F0 w) {A : Nat → Prop} (hA : ∀ b, F0 b → A b)
    (hiter : IterIs P (n - 1) gf lb encs R off S Sp A w.heap.size w)
    (a₁ : α → Act)
    (hassign : ∀ (l : Nat) (x : α) (W : World) (K : Act → World → Prop), K (a₁ x) W → assign.wpIn (Fence.wide.inRound l) (n - 1 - 1) P (Exit.then K (fun _ _ _ => False)) { tmps := (ps.zip (encs x)).foldl (fun t (p, v) => t.setIfInBounds p v) a.tmps, defers := [] } W)
    (hbody : ∀ (l : Nat) (pre : List α) (F : Nat → Prop) (x : α) (W : World), w.heap.size + 2 ≤ W.heap.size → I pre F W → R pre x F W → body.wpIn (Fence.wide.inRound l) (n - 1 - 1) P (RPost w.heap.size I Ix F (pre ++ [x]) W) (a₁ x) W)
    (hdone : ∀ (D : Nat) (xs : List α) (F : Nat → Prop) (W : World), D = w.heap.size → S xs → I xs F W → W.heap[D]? = some (.deferred (some [])) → Q .normal { a with defers := { target := .collected D, args := #[] } :: a.defers } W)
    (hstop : ∀ (D : Nat) (c : Code) (xs : List α) (W : World), D = w.heap.size → Sp xs → Ix c xs W → W.heap[D]? = some (.deferred (some [])) → c.wpIn Fence.wide n P Q { a with defers := { target := .collected D, args := #[] } :: a.defers } W) :
    (Code.rangeFunc g ps assign body).wpIn Fence.wide n P Q a w := by
  refine wpIn_rangeFunc fun fn hfn => ?_
  obtain ⟨rec, hrec⟩ : ∃ rec : LoopState → Option Code → Loop, rec = fun st pe => { state := st, pending := pe, fn := fn, tmps := a.tmps, params := ps, assign := assign, body := body, defers := w.heap.size } := ⟨_, rfl⟩
  obtain ⟨W1, hW1⟩ : ∃ W1, (w.alloc (.deferred (some []))).alloc (.loop (rec .ready none)) = W1 := ⟨_, rfl⟩
  have bW : Below w.heap.size w W1 := by rw [← hW1]; exact ((Below.refl _ w).alloc (Nat.le_refl _) _).alloc (by simp) _
  have sW : W1.heap.size = w.heap.size + 2 := by rw [← hW1]; simp
  have rec1 : W1.heap[w.heap.size + 1]? = some (.loop (rec .ready none)) := by
    have := World.alloc_heap_new (w.alloc (.deferred (some []))) (.loop (rec .ready none))
    rw [World.size_alloc] at this
    rw [← hW1]; exact this
  have def1 : W1.heap[w.heap.size]? = some (.deferred (some [])) := by
    rw [← hW1]
    exact (Below.heap_alloc _ _ w.heap.size (by simp)).trans (World.alloc_heap_new w _)
  refine ⟨w.heap.size + 1, [{ target := .collected w.heap.size, args := #[] }], W1, { target := .fn (.func gf) lb, args := #[.func (.yield (w.heap.size + 1)) #[] #[]] }, W1, gf, #[.func (.yield (w.heap.size + 1)) #[] #[]] ++ lb, W1, ?_, ?_, fun _ _ => trivial, ?_, (fun h => by cases h), ?_⟩
  · rw [← hW1, hrec]; exact run_enterLoop_outer _ _ _ _ _
  · simp only [resolve, hg]
    simp [go_sem]
  · simp [invoke, go_sem, eg]
  refine (hiter (w.heap.size + 1)
    (fun pre F W => I pre F W ∧ W.heap[w.heap.size + 1]? = some (.loop (rec .ready none)) ∧ W.heap[w.heap.size]? = some (.deferred (some [])) ∧ ∀ x ∈ pre, off x (w.heap.size + 1))
    (fun pre W => ∃ c, Ix c pre W ∧ W.heap[w.heap.size + 1]? = some (.loop (rec .done (some c))) ∧ W.heap[w.heap.size]? = some (.deferred (some [])) ∧ ∀ x ∈ pre, off x (w.heap.size + 1))
    F0 W1 (by omega) bW hA (fun pre F W h b hb => (hIF _ _ _ h.1 b hb).1) ?_ ?_ ⟨hI _ _ _ _ (fun _ => False) h0 (Keeps.of_below bW) (fun _ h => h.elim), rec1, def1, fun x hx => by cases hx⟩).mono ?_
  · rintro pre F W W' N ⟨h1, h2, h3, h4⟩ hk hN
    exact ⟨hI _ _ _ _ N h1 hk (fun b hb => ⟨(hN b hb).1, by have := (hN b hb).2.1; omega, (hN b hb).2.2⟩), (hk.block _ (Array.getElem?_eq_some_iff.1 h2).1 (fun h => by have := (hN _ h).2.1; omega)).trans h2, (hk.block _ (Array.getElem?_eq_some_iff.1 h3).1 (fun h => by have := (hN _ h).2.1; omega)).trans h3, h4⟩
  · rintro pre F x W ⟨h1, h2, h3, h4⟩ hx
    have h5 : ∀ y ∈ pre ++ [x], off y (w.heap.size + 1) := fun y hy => by
      rcases List.mem_append.1 hy with hy | hy
      · exact h4 y hy
      · obtain rfl := List.mem_singleton.1 hy; exact hRo _ _ _ _ hx
    have hlt : w.heap.size + 1 < W.heap.size := (Array.getElem?_eq_some_iff.1 h2).1
    have hy := run_yield (P := P) (args := encs x) h2 (by rw [hrec]; exact hps x)
    rw [hrec] at hy
    refine ⟨fn, _, assign, body, hy, roundIn_of_wpIn hfn (hassign _ x W _ ⟨_, run_beginRound h2 (by rw [hrec]), ?_⟩)⟩
    have kc := keeps_putObj (W := W) (w.heap.size + 1) (.loop { rec .ready none with state := .busy })
    have e1 : (W.putObj (w.heap.size + 1) (.loop { rec .ready none with state := .busy })).heap[w.heap.size + 1]? = some (.loop { rec .ready none with state := .busy }) := World.putObj_heap_same hlt
    have e2 : (W.putObj (w.heap.size + 1) (.loop { rec .ready none with state := .busy })).heap[w.heap.size]? = some (.deferred (some [])) := (World.putObj_heap_other (by omega)).trans h3
    have hF := hIF _ _ _ h1
    have hIb := hI _ _ _ _ _ h1 kc (fun b hb => by subst hb; exact ⟨fun h => (hF _ h).2.2 rfl, by omega, h4⟩)
    have hbw := hbody (w.heap.size + 1) pre F x _ (Nat.le_trans hlt kc.size) hIb (hR _ _ _ _ _ _ hx h2 kc)
    have hleft : ∀ (c : Code) (W3 : World), ((W3.heap[w.heap.size]? = (W.putObj (w.heap.size + 1) (.loop { rec .ready none with state := .busy })).heap[w.heap.size]? ∧ W3.heap[w.heap.size + 1]? = (W.putObj (w.heap.size + 1) (.loop { rec .ready none with state := .busy })).heap[w.heap.size + 1]?) ∧ Ix c (pre ++ [x]) W3) →
        ∃ v w', (Instr.endRound (w.heap.size + 1) (some c)).run P W3 = .ok v w' ∧ ((Ending.returned v = .returned (.bool true) ∧ ∃ F', (I (pre ++ [x]) F' w' ∧ w'.heap[w.heap.size + 1]? = some (.loop (rec .ready none)) ∧ w'.heap[w.heap.size]? = some (.deferred (some [])) ∧ ∀ y ∈ pre ++ [x], off y (w.heap.size + 1)) ∧ Keeps F W w' ∧ ∀ b, F' b → F b ∨ W.heap.size ≤ b) ∨ (Ending.returned v = .returned (.bool false) ∧ ∃ c, Ix c (pre ++ [x]) w' ∧ w'.heap[w.heap.size + 1]? = some (.loop (rec .done (some c))) ∧ w'.heap[w.heap.size]? = some (.deferred (some [])) ∧ ∀ y ∈ pre ++ [x], off y (w.heap.size + 1))) := by
      rintro c W3 ⟨⟨q1, q2⟩, q3⟩
      have f1 := q2.trans e1
      have hr := run_endRound (P := P) (some c) f1
      have hl3 : w.heap.size + 1 < W3.heap.size := (Array.getElem?_eq_some_iff.1 f1).1
      refine ⟨_, _, hr, .inr ⟨rfl, c, hIx _ _ _ _ q3 h5 (keeps_putObj _ _), ?_, (World.putObj_heap_other (by omega)).trans (q1.trans e2), h5⟩⟩
      rw [World.putObj_heap_same hl3, hrec]; rfl
    refine wpIn_mono hbw ?_
    intro e a3 W3 hq
    cases e with
    | normal =>
      obtain ⟨F', hi3, hk3, hf3⟩ := hq
      have f1 := (hk3.block (w.heap.size + 1) (by simp [World.putObj]; omega) (fun h => (hF _ h).2.2 rfl)).trans e1
      have f2 := (hk3.block w.heap.size (by simp [World.putObj]; omega) (fun h => (hF _ h).2.1 rfl)).trans e2
      have hr := run_endRound (P := P) none f1
      have hl3 : w.heap.size + 1 < W3.heap.size := (Array.getElem?_eq_some_iff.1 f1).1
      have hback : ({ ({ rec .ready none with state := .busy } : Loop) with state := if (none : Option Code).isNone = true then LoopState.ready else LoopState.done, pending := none } : Loop) = rec .ready none := by rw [hrec]; rfl
      have hsz : (W.putObj (w.heap.size + 1) (.loop { rec .ready none with state := .busy })).heap.size = W.heap.size := by simp [World.putObj]
      refine ⟨_, _, hr, .inl ⟨rfl, F', ⟨hI _ _ _ _ _ hi3 (keeps_putObj _ _) (fun b hb => ?_), ?_, (World.putObj_heap_other (by omega)).trans f2, h5⟩, ?_, fun b hb => by have := hf3 b hb; rw [hsz] at this; exact this⟩⟩
      · subst hb
        refine ⟨fun h => ?_, by omega, h5⟩
        exact (hIF _ _ _ hi3 _ h).2.2 rfl
      · rw [World.putObj_heap_same hl3]
        exact congrArg (fun x => some (Obj.loop x)) hback
      · have k2 := keeps_putObj (W := W3) (w.heap.size + 1) (.loop { ({ rec .ready none with state := .busy } : Loop) with state := if (none : Option Code).isNone = true then LoopState.ready else LoopState.done, pending := none })
        refine ⟨k2.os.trans (hk3.os.trans kc.os), k2.tape.trans (hk3.tape.trans kc.tape), k2.output.trans (hk3.output.trans kc.output), Nat.le_trans kc.size (Nat.le_trans hk3.size k2.size), fun k hk hn => ?_⟩
        by_cases e9 : k = w.heap.size + 1
        · subst e9
          rw [World.putObj_heap_same hl3, h2]
          exact congrArg (fun x => some (Obj.loop x)) hback
        · exact (k2.block k (Nat.lt_of_lt_of_le hk (Nat.le_trans kc.size hk3.size)) e9).trans ((hk3.block k (Nat.lt_of_lt_of_le hk kc.size) hn).trans (kc.block k hk e9))
    | ret => exact hleft .ret W3 hq
    | exit id => exact hleft (.exit id) W3 hq
    | goto t => exact hleft (.goto t) W3 hq
    | panic c => exact hq.elim
    | outgrown => exact hq.elim
  · rintro e W2 ⟨⟨v, rfl⟩, hh⟩
    rcases hh with ⟨xs, F, hS, h1, h2, h3, h4⟩ | ⟨xs, hS, c, h1, h2, h3, h4⟩
    · have hend := run_endLoop (P := P) h2 (by rw [hrec]; simp)
      have hF := hIF _ _ _ h1
      rw [show (rec .ready none).pending = none by rw [hrec]] at hend
      exact ⟨none, _, hend, hdone _ xs F _ rfl hS (hI _ _ _ _ _ h1 (keeps_putObj _ _) (fun b hb => by subst hb; exact ⟨fun h => (hF _ h).2.2 rfl, by omega, h4⟩)) ((World.putObj_heap_other (by omega)).trans h3)⟩
    · have hend := run_endLoop (P := P) h2 (by rw [hrec]; simp)
      rw [show (rec .done (some c)).pending = some c by rw [hrec]] at hend
      exact ⟨some c, _, hend, hstop _ c xs _ rfl hS (hIx _ _ _ _ h1 h4 (keeps_putObj _ _)) ((World.putObj_heap_other (by omega)).trans h3)⟩
end Go.Proofs.Ytepkmhcchmladaa
