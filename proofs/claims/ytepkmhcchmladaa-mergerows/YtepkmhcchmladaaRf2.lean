/- A range over a function whose body may turn maps: only the loop's own record is asked to stay. And a drawn region in a round: reads first, then a call that writes. -/
import Derived.Test.YtepkmhcchmladaaRf
import Derived.StillTailTactics
namespace Go.Proofs.Ytepkmhcchmladaa
open Go.RowKit Go.Shelf
set_option linter.unusedVariables false
set_option linter.unusedSimpArgs false

theorem grown_of_below {W W' : World} (h : Below W.heap.size W W') (r : Option Nat) : W.grownBy W' r := ⟨h.os, h.tape, h.output, h.size, fun k hk _ => h.block k hk⟩
theorem Row.loop {X X' : World} {a : Option Addr} {zs : List Int} {r : Nat} {L : Loop} (h : Row X a zs) (hL : X.heap[r]? = some (.loop L)) (hg : X.grownBy X' (some r)) : Row X' a zs := by
  rcases h with rfl | ⟨b, off, rfl, hlt, hc⟩
  · exact .inl rfl
  · refine .inr ⟨b, off, rfl, Nat.lt_of_lt_of_le hlt hg.size, fun i hi => hg.cell (hc i hi) (fun e => ?_)⟩
    simp only [Option.some.injEq] at e
    have h1 := hc i hi
    subst e
    simp [World.cell?, hL] at h1
/-- The body goes on; the loop's records lie as they lay. -/
def goesOn2 {α : Type} (w : World) (I : List α → World → Prop) (xs : List α) (W : World) (e : Exit) (_ : Act) (W' : World) : Prop := e = .normal ∧ W'.heap[w.heap.size]? = W.heap[w.heap.size]? ∧ W'.heap[w.heap.size + 1]? = W.heap[w.heap.size + 1]? ∧ I xs W'
theorem goesOn2_in {α : Type} (w : World) (I : List α → World → Prop) (xs : List α) (W : World) : ¬ LetsOut (goesOn2 w I xs W) := by
  rintro ⟨a, w, h, _⟩
  cases h

theorem range_loop2 {P : Program} {α : Type} {g : Operand} {ps : Array Tmp} {assign body : Code} {Q : Exit → Act → World → Prop} {a : Act} {w : World} {n gf : Nat} {lb : Array Value}
    (hg : a.eval g = .func (.func gf) #[] lb) (eg : ∀ args w, (callFunc gf args).run P w = .ok (.enter gf args) w) {encs : α → Array Value} (hps : ∀ x, (encs x).size = ps.size)
    (R : List α → α → World → Prop) (I : List α → World → Prop) (S : List α → Prop)
    (hI : ∀ pre W W', I pre W → W.grownBy W' (some (w.heap.size + 1)) → I pre W') (hR : ∀ pre x W W' L, R pre x W → W.heap[w.heap.size + 1]? = some (.loop L) → W.grownBy W' (some (w.heap.size + 1)) → R pre x W') (h0 : I [] w)
    (hiter : ∀ (l : Nat) (J : List α → World → Prop) (W : World), (∀ pre W, J pre W → I pre W) → (∀ pre W W', J pre W → Below W.heap.size W W' → J pre W') →
      (∀ pre x W1, J pre W1 → R pre x W1 → YieldAt Fence.wide (n - 1 - 1) P l (encs x) W1 fun e W' => e = .returned (.bool true) ∧ J (pre ++ [x]) W') → J [] W →
      CallsIn Fence.wide (n - 1) P gf (#[.func (.yield l) #[] #[]] ++ lb) W fun e W' => (∃ v, e = .returned v) ∧ ∃ xs, S xs ∧ J xs W')
    (a₁ : α → Act)
    (hassign : ∀ (l : Nat) (x : α) (W : World) (K : Act → World → Prop), K (a₁ x) W → assign.wpIn (Fence.wide.inRound l) (n - 1 - 1) P (Exit.then K (fun _ _ _ => False)) { tmps := (ps.zip (encs x)).foldl (fun t (p, v) => t.setIfInBounds p v) a.tmps, defers := [] } W)
    (hbody : ∀ (l : Nat) (pre : List α) (x : α) (W : World), w.heap.size + 2 ≤ W.heap.size → I pre W → R pre x W → body.wpIn (Fence.wide.inRound l) (n - 1 - 1) P (goesOn2 w I (pre ++ [x]) W) (a₁ x) W)
    (hdone : ∀ (D : Nat) (xs : List α) (W : World), D = w.heap.size → S xs → I xs W → W.heap[D]? = some (.deferred (some [])) → Q .normal { a with defers := { target := .collected D, args := #[] } :: a.defers } W) :
    (Code.rangeFunc g ps assign body).wpIn Fence.wide n P Q a w := by
  refine wpIn_rangeFunc fun fn hfn => ?_
  obtain ⟨L0, hL0⟩ : ∃ L0 : Loop, L0 = { state := .ready, pending := none, fn := fn, tmps := a.tmps, params := ps, assign := assign, body := body, defers := w.heap.size } := ⟨_, rfl⟩
  obtain ⟨W1, hW1⟩ : ∃ W1, (w.alloc (.deferred (some []))).alloc (.loop L0) = W1 := ⟨_, rfl⟩
  have bW : Below w.heap.size w W1 := by rw [← hW1]; exact ((Below.refl _ w).alloc (Nat.le_refl _) _).alloc (by simp) _
  have rec1 : W1.heap[w.heap.size + 1]? = some (.loop L0) := by
    have := World.alloc_heap_new (w.alloc (.deferred (some []))) (.loop L0)
    rw [World.size_alloc] at this
    rw [← hW1]; exact this
  have def1 : W1.heap[w.heap.size]? = some (.deferred (some [])) := by
    rw [← hW1]
    exact (Below.heap_alloc _ _ w.heap.size (by simp)).trans (World.alloc_heap_new w _)
  refine ⟨w.heap.size + 1, [{ target := .collected w.heap.size, args := #[] }], W1, { target := .fn (.func gf) lb, args := #[.func (.yield (w.heap.size + 1)) #[] #[]] }, W1, gf, #[.func (.yield (w.heap.size + 1)) #[] #[]] ++ lb, W1, ?_, ?_, fun _ _ => trivial, ?_, (fun h => by cases h), ?_⟩
  · rw [← hW1, hL0]; exact run_enterLoop_outer _ _ _ _ _
  · simp only [resolve, hg]
    simp [go_sem]
  · simp [invoke, go_sem, eg]
  refine (hiter (w.heap.size + 1) (fun pre W => I pre W ∧ W.heap[w.heap.size + 1]? = some (.loop L0) ∧ W.heap[w.heap.size]? = some (.deferred (some []))) W1 (fun _ _ h => h.1) ?_ ?_ ⟨hI _ _ _ h0 (grown_of_below bW _), rec1, def1⟩).mono ?_
  · rintro pre W W' ⟨h1, h2, h3⟩ hb
    exact ⟨hI _ _ _ h1 (grown_of_below hb _), (hb.block _ (Array.getElem?_eq_some_iff.1 h2).1).trans h2, (hb.block _ (Array.getElem?_eq_some_iff.1 h3).1).trans h3⟩
  · rintro pre x W ⟨h1, h2, h3⟩ hx
    have hy := run_yield (P := P) (args := encs x) h2 (by rw [hL0]; exact hps x)
    have hf : L0.fn = fn := by rw [hL0]
    have ht : L0.tmps = a.tmps := by rw [hL0]
    have hp : L0.params = ps := by rw [hL0]
    have ha : L0.assign = assign := by rw [hL0]
    have hbd : L0.body = body := by rw [hL0]
    have hst : L0.state = .ready := by rw [hL0]
    have hpe : L0.pending = none := by rw [hL0]
    have hlt : w.heap.size + 1 < W.heap.size := (Array.getElem?_eq_some_iff.1 h2).1
    rw [hf, ht, hp, ha, hbd] at hy
    refine ⟨fn, _, assign, body, hy, roundIn_of_wpIn hfn (hassign _ x W _ ⟨_, run_beginRound h2 hst, ?_⟩)⟩
    obtain ⟨L1, hL1⟩ : ∃ L1 : Loop, { L0 with state := .busy } = L1 := ⟨_, rfl⟩
    have kc : W.grownBy (W.putObj (w.heap.size + 1) (.loop L1)) (some (w.heap.size + 1)) := grownBy_putObj' W _ _
    have e1 : (W.putObj (w.heap.size + 1) (.loop L1)).heap[w.heap.size + 1]? = some (.loop L1) := World.putObj_heap_same hlt
    have e2 : (W.putObj (w.heap.size + 1) (.loop L1)).heap[w.heap.size]? = some (.deferred (some [])) := (World.putObj_heap_other (by omega)).trans h3
    have hbw := hbody (w.heap.size + 1) pre x _ (Nat.le_trans hlt kc.size) (hI _ _ _ h1 kc) (hR _ _ _ _ _ hx h2 kc)
    rw [← hL1] at hbw e1 e2
    refine wpIn_mono hbw ?_
    rintro e a3 W3 ⟨rfl, hk3, hk4, hi3⟩
    have f1 := hk4.trans e1
    have f2 := hk3.trans e2
    have hr := run_endRound (P := P) none f1
    have hl3 : w.heap.size + 1 < W3.heap.size := (Array.getElem?_eq_some_iff.1 f1).1
    have hback : ({ state := if (none : Option Code).isNone = true then LoopState.ready else LoopState.done, pending := none, fn := L0.fn, tmps := L0.tmps, params := L0.params, assign := L0.assign, body := L0.body, defers := L0.defers } : Loop) = L0 := by rw [hL0]; rfl
    refine ⟨_, _, hr, rfl, hI _ _ _ hi3 (grownBy_putObj' W3 _ _), ?_, (World.putObj_heap_other (by omega)).trans f2⟩
    rw [World.putObj_heap_same hl3]
    exact congrArg (fun x => some (Obj.loop x)) hback
  · rintro e W2 ⟨⟨v, rfl⟩, xs, hS, h1, h2, h3⟩
    have hend := run_endLoop (P := P) h2 (by rw [hL0]; simp)
    rw [show L0.pending = none by rw [hL0]] at hend
    exact ⟨none, _, hend, hdone _ xs _ rfl hS (hI _ _ _ h1 (grownBy_putObj' W2 _ _)) ((World.putObj_heap_other (by omega)).trans h3)⟩

/-- A drawn region whose first n operations only read: as wpAny. -/
theorem any_still_tail {P : Program} {Q : Exit → Act → World → Prop} {a : Act} {w : World} {l : List Oper} (n : Nat) (hB : Region.lexTailB .any l.toArray n = true)
    (h : wpStill P l.toArray { w with drawn := w.drawn + 1 } (fun a' => wpList P l.toArray Q (l.drop n) a' { w with drawn := w.drawn + 1 }) (l.take n) a) : wpAny P .any l.toArray Q l.toArray.size (Array.replicate l.toArray.size false) a { w with drawn := w.drawn + 1 } := by
  simp only [Region.lexTailB, Bool.and_eq_true, decide_eq_true_eq] at hB
  obtain ⟨⟨⟨⟨hsel, hn⟩, hs⟩, hc⟩, hlex⟩ := hB
  have hn' : n < l.length := by simpa using hn
  have htl : (l.take n).length = n := by simp; omega
  have hdl : (l.drop n).length = l.toArray.size - n := by simp
  have inv0 : HeadInv .any l.toArray n (Array.replicate l.toArray.size false) :=
    ⟨by simp, fun j oj _ hl => (by rw [getD_replicate_false] at hl; cases hl), fun t _ ht => getD_in (by simpa using ht) (getD_replicate_false _ _)⟩
  have H := wpAnyL_lex (md := .any) (g := l.toArray.size - n) hsel hs hc hn (l.take n) 0 _ a (fun j hj => by
    have hj' : j < n := by rw [htl] at hj; exact hj
    simp [hj']) (by simpa using htl) inv0 (by rw [htl]; exact hlex) h
  have := wpAny_of_head (Q' := Q) (g := l.toArray.size - n) (fun listed a' hL => by
    have := wpAny_of_seq (md := .any) (Q' := Q) (l.drop n) n listed a' { w with drawn := w.drawn + 1 } (fun j => by simp [List.getElem?_drop]) (by rw [hdl]; exact hL.1) hL.2
    rwa [hdl] at this) _ _ _ H
  rw [htl, show n + (l.toArray.size - n) = l.toArray.size by omega] at this
  exact this
/-- .. inside a round. -/
theorem round_still_tail {P : Program} {id : Nat} {Q : Exit → Act → World → Prop} {a : Act} {w : World} {l : List Oper} (lp m n : Nat) (hm : P.follows .mixedOrders = true) (hnd : ∀ o ∈ l, ∀ c, o.op ≠ .defer c) (hLO : ¬ LetsOut Q) (hB : Region.lexTailB .any l.toArray n = true)
    (h : wpStill P l.toArray { w with drawn := w.drawn + 1 } (fun a' => wpList P l.toArray Q (l.drop n) a' { w with drawn := w.drawn + 1 }) (l.take n) a) : (Code.region id l.toArray true).wpIn (Fence.wide.inRound lp) m P Q a w :=
  wpIn_region_any hm (anyIn_of_any lp m (fun i o ho c => hnd o (by have := Array.mem_of_getElem? ho; simpa using this) c) hLO _ _ _ _ (any_still_tail n hB h))
/-- A region that draws nothing, inside a round: as outside. -/
theorem listIn_of_list {P : Program} {ops : Array Oper} {Q : Exit → Act → World → Prop} (l n : Nat) (hLO : ¬ LetsOut Q) : ∀ (os : List Oper), (∀ o ∈ os, ∀ c, o.op ≠ .defer c) → ∀ (a : Act) (w : World), wpList P ops Q os a w → wpListIn (Fence.wide.inRound l) n P ops Q os a w
  | [], _, a, w, h => h
  | o :: os, hnd, a, w, h => by
    unfold wpList at h
    unfold wpListIn
    split
    · rename_i hw
      rw [if_pos hw] at h
      rcases h with h | h
      · exact Oper.wpIn_mono (fun a w h => listIn_of_list l n hLO os (fun x hx => hnd x (List.mem_cons_of_mem _ hx)) a w h) (wpIn_of_wp_round l n (hnd o (List.mem_cons_self ..)) h)
      · exact absurd h.2 hLO
    · rename_i hw
      rw [if_neg hw] at h
      exact ⟨fun _ _ => trivial, listIn_of_list l n hLO os (fun x hx => hnd x (List.mem_cons_of_mem _ hx)) _ _ h⟩
theorem round_plain {P : Program} {id : Nat} {Q : Exit → Act → World → Prop} {a : Act} {w : World} {l : List Oper} (lp m : Nat) (hnd : ∀ o ∈ l, ∀ c, o.op ≠ .defer c) (hLO : ¬ LetsOut Q) (h : wpList P l.toArray Q l a w) : (Code.region id l.toArray false).wpIn (Fence.wide.inRound lp) m P Q a w :=
  wpIn_region_lit (listIn_of_list lp m hLO l hnd a w h)
end Go.Proofs.Ytepkmhcchmladaa
