/- A range over a function whose elements lie in memory that the iterator makes: a law of our own, over what is known of an element when it is handed over. The body goes on in every round. -/
import Derived.Test.YtepkmhcchmladaaRg
namespace Go.Proofs.Ytepkmhcchmladaa
open Go.RowKit Go.Shelf
set_option linter.unusedVariables false
set_option linter.unusedSimpArgs false

/-- All cells, and all that lies below B, lie as they lay. -/
structure KC (B : Nat) (W W' : World) : Prop where
  os : W'.os = W.os
  tape : W'.tape = W.tape
  output : W'.output = W.output
  size : W.heap.size ≤ W'.heap.size
  block : ∀ k, k < W.heap.size → (k < B ∨ ∃ o : Obj, W.heap[k]? = some o ∧ o.isCells = true) → W'.heap[k]? = W.heap[k]?
theorem KC.of_below {B : Nat} {W W' : World} (h : Below W.heap.size W W') : KC B W W' := ⟨h.os, h.tape, h.output, h.size, fun k hk _ => h.block k hk⟩
theorem KC.putObj {B : Nat} {W : World} {l : Nat} {o : Obj} (o' : Obj) (h : W.heap[l]? = some o) (ho : o.isCells = false) (hl : B ≤ l) : KC B W (W.putObj l o') := by
  have g := grownBy_putObj' W l o'
  refine ⟨g.os, g.tape, g.output, g.size, fun k hk hc => g.block k hk (fun e => ?_)⟩
  cases e
  rcases hc with hc | ⟨p, hp, hpc⟩
  · omega
  · rw [h] at hp; cases hp; rw [ho] at hpc; cases hpc
theorem KC.below {B : Nat} {w W W' : World} (h : KC B W W') (hb : Below B w W) (hB : B ≤ W.heap.size) : Below B w W' :=
  ⟨h.os.trans hb.os, h.tape.trans hb.tape, h.output.trans hb.output, Nat.le_trans hb.size h.size, fun k hk => (h.block k (by omega) (.inl hk)).trans (hb.block k hk)⟩
theorem KC.cell {B : Nat} {W W' : World} (h : KC B W W') {p : Addr} {v : Value} (hc : W.cell? p = some v) : W'.cell? p = some v := by
  have hl := World.block_lt_of_cell? W p hc
  rw [World.cell?_of_block (h.block p.block hl (.inr ?_))]
  · exact hc
  · obtain ⟨o, ho⟩ : ∃ o, W.heap[p.block]? = some o := ⟨_, Array.getElem?_eq_getElem hl⟩
    refine ⟨o, ho, ?_⟩
    cases o with
    | cells cs t fr => rfl
    | _ => simp [World.cell?, ho] at hc
/-- The body goes on. -/
def goesOn {α : Type} (I : List α → World → Prop) (xs : List α) (W : World) (e : Exit) (_ : Act) (W' : World) : Prop := e = .normal ∧ KeepsOthers W W' ∧ I xs W'
theorem goesOn_in {α : Type} (I : List α → World → Prop) (xs : List α) (W : World) : ¬ LetsOut (goesOn I xs W) := by
  rintro ⟨a, w, h, _⟩
  cases h

theorem range_loop {P : Program} {α : Type} {g : Operand} {ps : Array Tmp} {assign body : Code} {Q : Exit → Act → World → Prop} {a : Act} {w : World} {n gf : Nat} {lb : Array Value}
    (hg : a.eval g = .func (.func gf) #[] lb) (eg : ∀ args w, (callFunc gf args).run P w = .ok (.enter gf args) w) {encs : α → Array Value} (hps : ∀ x, (encs x).size = ps.size) {B : Nat} (hB : B ≤ w.heap.size)
    (R : List α → α → World → Prop) (I : List α → World → Prop) (S : List α → Prop)
    (hI : ∀ pre W W', I pre W → KC B W W' → I pre W') (hR : ∀ pre x W W', R pre x W → KC B W W' → R pre x W') (h0 : I [] w)
    (hiter : ∀ (l : Nat) (J : List α → World → Prop) (W : World), (∀ pre W, J pre W → I pre W) → (∀ pre W W', J pre W → Below W.heap.size W W' → J pre W') →
      (∀ pre x W1, J pre W1 → R pre x W1 → YieldAt Fence.wide (n - 1 - 1) P l (encs x) W1 fun e W' => e = .returned (.bool true) ∧ J (pre ++ [x]) W') → J [] W →
      CallsIn Fence.wide (n - 1) P gf (#[.func (.yield l) #[] #[]] ++ lb) W fun e W' => (∃ v, e = .returned v) ∧ ∃ xs, S xs ∧ J xs W')
    (a₁ : α → Act)
    (hassign : ∀ (l : Nat) (x : α) (W : World) (K : Act → World → Prop), K (a₁ x) W → assign.wpIn (Fence.wide.inRound l) (n - 1 - 1) P (Exit.then K (fun _ _ _ => False)) { tmps := (ps.zip (encs x)).foldl (fun t (p, v) => t.setIfInBounds p v) a.tmps, defers := [] } W)
    (hbody : ∀ (l : Nat) (pre : List α) (x : α) (W : World), I pre W → R pre x W → body.wpIn (Fence.wide.inRound l) (n - 1 - 1) P (goesOn I (pre ++ [x]) W) (a₁ x) W)
    (hdone : ∀ (D : Nat) (xs : List α) (W : World), w.heap.size ≤ D → S xs → I xs W → W.heap[D]? = some (.deferred (some [])) → Q .normal { a with defers := { target := .collected D, args := #[] } :: a.defers } W) :
    (Code.rangeFunc g ps assign body).wpIn Fence.wide n P Q a w := by
  refine wpIn_rangeFunc fun fn hfn => ?_
  obtain ⟨L0, hL0⟩ : ∃ L0 : Loop, L0 = { state := .ready, pending := none, fn := fn, tmps := a.tmps, params := ps, assign := assign, body := body, defers := w.heap.size } := ⟨_, rfl⟩
  obtain ⟨W1, hW1⟩ : ∃ W1, (w.alloc (.deferred (some []))).alloc (.loop L0) = W1 := ⟨_, rfl⟩
  have bW : Below w.heap.size w W1 := by rw [← hW1]; exact ((Below.refl _ w).alloc (Nat.le_refl _) _).alloc (by simp) _
  have rec1 : W1.heap[w.heap.size + 1]? = some (.loop L0) := by
    have := World.alloc_heap_new (w.alloc (.deferred (some []))) (.loop L0)
    rw [World.size_alloc] at this
    rw [← hW1]; exact this
  have def1 : W1.heap[w.heap.size]? = some (.deferred (some [])) := by
    rw [← hW1]
    exact (Below.heap_alloc _ _ w.heap.size (by simp)).trans (World.alloc_heap_new w _)
  refine ⟨w.heap.size + 1, [{ target := .collected w.heap.size, args := #[] }], W1, { target := .fn (.func gf) lb, args := #[.func (.yield (w.heap.size + 1)) #[] #[]] }, W1, gf, #[.func (.yield (w.heap.size + 1)) #[] #[]] ++ lb, W1, ?_, ?_, fun _ _ => trivial, ?_, (fun h => by cases h), ?_⟩
  · rw [← hW1, hL0]; exact run_enterLoop_outer _ _ _ _ _
  · simp only [resolve, hg]
    simp [go_sem]
  · simp [invoke, go_sem, eg]
  refine (hiter (w.heap.size + 1) (fun pre W => I pre W ∧ W.heap[w.heap.size + 1]? = some (.loop L0) ∧ W.heap[w.heap.size]? = some (.deferred (some []))) W1 (fun _ _ h => h.1) ?_ ?_ ⟨hI _ _ _ h0 (KC.of_below bW), rec1, def1⟩).mono ?_
  · rintro pre W W' ⟨h1, h2, h3⟩ hb
    exact ⟨hI _ _ _ h1 (KC.of_below hb), (hb.block _ (Array.getElem?_eq_some_iff.1 h2).1).trans h2, (hb.block _ (Array.getElem?_eq_some_iff.1 h3).1).trans h3⟩
  · rintro pre x W ⟨h1, h2, h3⟩ hx
    have hy := run_yield (P := P) (args := encs x) h2 (by rw [hL0]; exact hps x)
    have hf : L0.fn = fn := by rw [hL0]
    have ht : L0.tmps = a.tmps := by rw [hL0]
    have hp : L0.params = ps := by rw [hL0]
    have ha : L0.assign = assign := by rw [hL0]
    have hbd : L0.body = body := by rw [hL0]
    have hst : L0.state = .ready := by rw [hL0]
    have hpe : L0.pending = none := by rw [hL0]
    have hlt : w.heap.size + 1 < W.heap.size := (Array.getElem?_eq_some_iff.1 h2).1
    rw [hf, ht, hp, ha, hbd] at hy
    refine ⟨fn, _, assign, body, hy, roundIn_of_wpIn hfn (hassign _ x W _ ⟨_, run_beginRound h2 hst, ?_⟩)⟩
    obtain ⟨L1, hL1⟩ : ∃ L1 : Loop, { L0 with state := .busy } = L1 := ⟨_, rfl⟩
    have kc : KC B W (W.putObj (w.heap.size + 1) (.loop L1)) := KC.putObj _ h2 rfl (by omega)
    have e1 : (W.putObj (w.heap.size + 1) (.loop L1)).heap[w.heap.size + 1]? = some (.loop L1) := World.putObj_heap_same hlt
    have e2 : (W.putObj (w.heap.size + 1) (.loop L1)).heap[w.heap.size]? = some (.deferred (some [])) := (World.putObj_heap_other (by omega)).trans h3
    have hbw := hbody (w.heap.size + 1) pre x _ (hI _ _ _ h1 kc) (hR _ _ _ _ hx kc)
    rw [← hL1] at hbw e1 e2
    refine wpIn_mono hbw ?_
    rintro e a3 W3 ⟨rfl, hk3, hi3⟩
    have f1 := hk3.same _ _ e1 rfl
    have f2 := hk3.same _ _ e2 rfl
    have hr := run_endRound (P := P) none f1
    have hl3 : w.heap.size + 1 < W3.heap.size := (Array.getElem?_eq_some_iff.1 f1).1
    have hback : ({ state := if (none : Option Code).isNone = true then LoopState.ready else LoopState.done, pending := none, fn := L0.fn, tmps := L0.tmps, params := L0.params, assign := L0.assign, body := L0.body, defers := L0.defers } : Loop) = L0 := by rw [hL0]; rfl
    refine ⟨_, _, hr, rfl, hI _ _ _ hi3 (KC.putObj _ f1 rfl (by omega)), ?_, (World.putObj_heap_other (by omega)).trans f2⟩
    rw [World.putObj_heap_same hl3]
    exact congrArg (fun x => some (Obj.loop x)) hback
  · rintro e W2 ⟨⟨v, rfl⟩, xs, hS, h1, h2, h3⟩
    have hend := run_endLoop (P := P) h2 (by rw [hL0]; simp)
    rw [show L0.pending = none by rw [hL0]] at hend
    exact ⟨none, _, hend, hdone _ xs _ (Nat.le_refl _) hS (hI _ _ _ h1 (KC.putObj _ h2 rfl (by omega))) ((World.putObj_heap_other (by omega)).trans h3)⟩
end Go.Proofs.Ytepkmhcchmladaa
