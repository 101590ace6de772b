/- A range over a function, told with footprints: the iterator may turn memory of its own between two rounds (a heap), the body memory of its own; and the body may leave. -/
import Derived.Test.YtepkmhcchmladaaRf2
namespace Go.Proofs.Ytepkmhcchmladaa
open Go.RowKit Go.Shelf
set_option linter.unusedVariables false
set_option linter.unusedSimpArgs false

theorem keeps_putObj {W : World} (l : Nat) (o : Obj) : Keeps (fun b => b = l) W (W.putObj l o) := Keeps.of_grown (grownBy_putObj' W l o) (fun k e => by cases e; rfl)
/-- What a round leaves: it goes on, only blocks of F have turned; or it is left. -/
def RPost {α : Type} (D : Nat) (I : List α → (Nat → Prop) → World → Prop) (Ix : Code → List α → World → Prop) (F : Nat → Prop) (xs : List α) (W : World) : Exit → Act → World → Prop
  | .normal, _, W' => ∃ F', I xs F' W' ∧ Keeps F W W' ∧ ∀ b, F' b → F b ∨ W.heap.size ≤ b
  | .ret, _, W' => (W'.heap[D]? = W.heap[D]? ∧ W'.heap[D + 1]? = W.heap[D + 1]?) ∧ Ix .ret xs W'
  | .exit id, _, W' => (W'.heap[D]? = W.heap[D]? ∧ W'.heap[D + 1]? = W.heap[D + 1]?) ∧ Ix (.exit id) xs W'
  | .goto t, _, W' => (W'.heap[D]? = W.heap[D]? ∧ W'.heap[D + 1]? = W.heap[D + 1]?) ∧ Ix (.goto t) xs W'
  | .panic _, _, _ => False
  | .outgrown, _, _ => False
theorem rpost_in {α : Type} (D : Nat) (I : List α → (Nat → Prop) → World → Prop) (Ix : Code → List α → World → Prop) (F : Nat → Prop) (xs : List α) (W : World) : ¬ LetsOut (RPost D I Ix F xs W) := fun ⟨_, _, h⟩ => h
/-- An iterator: whatever the body keeps beside it. -/
def IterIs {α : Type} (P : Program) (n gf : Nat) (lb : Array Value) (encs : α → Array Value) (R : List α → α → (Nat → Prop) → World → Prop) (off : α → Nat → Prop) (S Sp : List α → Prop) (A : Nat → Prop) (D : Nat) (W0 : World) : Prop :=
  ∀ (l : Nat) (J : List α → (Nat → Prop) → World → Prop) (Jx : List α → World → Prop) (F0 : Nat → Prop) (W : World), D + 2 ≤ W.heap.size → Below D W0 W →
    (∀ b, F0 b → A b) → (∀ pre F W', J pre F W' → ∀ b, F b → b < W'.heap.size) →
    (∀ pre F W W' N, J pre F W → Keeps N W W' → (∀ b, N b → ¬ F b ∧ D + 2 ≤ b ∧ ∀ x ∈ pre, off x b) → J pre F W') →
    (∀ pre F x W1, J pre F W1 → R pre x F W1 → YieldAt Fence.wide (n - 1) P l (encs x) W1 fun e W' =>
      (e = .returned (.bool true) ∧ ∃ F', J (pre ++ [x]) F' W' ∧ Keeps F W1 W' ∧ ∀ b, F' b → F b ∨ W1.heap.size ≤ b) ∨ (e = .returned (.bool false) ∧ Jx (pre ++ [x]) W')) →
    J [] F0 W →
    CallsIn Fence.wide n P gf (#[.func (.yield l) #[] #[]] ++ lb) W fun e W' => (∃ v, e = .returned v) ∧ ((∃ xs F, S xs ∧ J xs F W') ∨ (∃ pre, Sp pre ∧ Jx pre W'))

theorem range_loop3 {P : Program} {α : Type} {g : Operand} {ps : Array Tmp} {assign body : Code} {Q : Exit → Act → World → Prop} {a : Act} {w : World} {n gf : Nat} {lb : Array Value}
    (hg : a.eval g = .func (.func gf) #[] lb) (eg : ∀ args w, (callFunc gf args).run P w = .ok (.enter gf args) w) {encs : α → Array Value} (hps : ∀ x, (encs x).size = ps.size)
    (R : List α → α → (Nat → Prop) → World → Prop) (off : α → Nat → Prop) (S Sp : List α → Prop) (I : List α → (Nat → Prop) → World → Prop) (Ix : Code → List α → World → Prop) (F0 : Nat → Prop)
    (hIF : ∀ pre F W, I pre F W → ∀ b, F b → b < W.heap.size ∧ b ≠ w.heap.size ∧ b ≠ w.heap.size + 1)
    (hI : ∀ pre F W W' N, I pre F W → Keeps N W W' → (∀ b, N b → ¬ F b ∧ w.heap.size ≤ b ∧ ∀ x ∈ pre, off x b) → I pre F W')
    (hIx : ∀ c pre W W', Ix c pre W → (∀ x ∈ pre, off x (w.heap.size + 1)) → Keeps (fun b => b = w.heap.size + 1) W W' → Ix c pre W')
    (hRo : ∀ pre x F W, R pre x F W → off x (w.heap.size + 1))
    (hR : ∀ pre x F W W' L, R pre x F W → W.heap[w.heap.size + 1]? = some (.loop L) → Keeps (fun b => b = w.heap.size + 1) W W' → R pre x F W') (h0 : I [] F0 w) {A : Nat → Prop} (hA : ∀ b, F0 b → A b)
    (hiter : IterIs P (n - 1) gf lb encs R off S Sp A w.heap.size w)
    (a₁ : α → Act)
    (hassign : ∀ (l : Nat) (x : α) (W : World) (K : Act → World → Prop), K (a₁ x) W → assign.wpIn (Fence.wide.inRound l) (n - 1 - 1) P (Exit.then K (fun _ _ _ => False)) { tmps := (ps.zip (encs x)).foldl (fun t (p, v) => t.setIfInBounds p v) a.tmps, defers := [] } W)
    (hbody : ∀ (l : Nat) (pre : List α) (F : Nat → Prop) (x : α) (W : World), w.heap.size + 2 ≤ W.heap.size → I pre F W → R pre x F W → body.wpIn (Fence.wide.inRound l) (n - 1 - 1) P (RPost w.heap.size I Ix F (pre ++ [x]) W) (a₁ x) W)
    (hdone : ∀ (D : Nat) (xs : List α) (F : Nat → Prop) (W : World), D = w.heap.size → S xs → I xs F W → W.heap[D]? = some (.deferred (some [])) → Q .normal { a with defers := { target := .collected D, args := #[] } :: a.defers } W)
    (hstop : ∀ (D : Nat) (c : Code) (xs : List α) (W : World), D = w.heap.size → Sp xs → Ix c xs W → W.heap[D]? = some (.deferred (some [])) → c.wpIn Fence.wide n P Q { a with defers := { target := .collected D, args := #[] } :: a.defers } W) :
    (Code.rangeFunc g ps assign body).wpIn Fence.wide n P Q a w := by
  refine wpIn_rangeFunc fun fn hfn => ?_
  obtain ⟨rec, hrec⟩ : ∃ rec : LoopState → Option Code → Loop, rec = fun st pe => { state := st, pending := pe, fn := fn, tmps := a.tmps, params := ps, assign := assign, body := body, defers := w.heap.size } := ⟨_, rfl⟩
  obtain ⟨W1, hW1⟩ : ∃ W1, (w.alloc (.deferred (some []))).alloc (.loop (rec .ready none)) = W1 := ⟨_, rfl⟩
  have bW : Below w.heap.size w W1 := by rw [← hW1]; exact ((Below.refl _ w).alloc (Nat.le_refl _) _).alloc (by simp) _
  have sW : W1.heap.size = w.heap.size + 2 := by rw [← hW1]; simp
  have rec1 : W1.heap[w.heap.size + 1]? = some (.loop (rec .ready none)) := by
    have := World.alloc_heap_new (w.alloc (.deferred (some []))) (.loop (rec .ready none))
    rw [World.size_alloc] at this
    rw [← hW1]; exact this
  have def1 : W1.heap[w.heap.size]? = some (.deferred (some [])) := by
    rw [← hW1]
    exact (Below.heap_alloc _ _ w.heap.size (by simp)).trans (World.alloc_heap_new w _)
  refine ⟨w.heap.size + 1, [{ target := .collected w.heap.size, args := #[] }], W1, { target := .fn (.func gf) lb, args := #[.func (.yield (w.heap.size + 1)) #[] #[]] }, W1, gf, #[.func (.yield (w.heap.size + 1)) #[] #[]] ++ lb, W1, ?_, ?_, fun _ _ => trivial, ?_, (fun h => by cases h), ?_⟩
  · rw [← hW1, hrec]; exact run_enterLoop_outer _ _ _ _ _
  · simp only [resolve, hg]
    simp [go_sem]
  · simp [invoke, go_sem, eg]
  refine (hiter (w.heap.size + 1)
    (fun pre F W => I pre F W ∧ W.heap[w.heap.size + 1]? = some (.loop (rec .ready none)) ∧ W.heap[w.heap.size]? = some (.deferred (some [])) ∧ ∀ x ∈ pre, off x (w.heap.size + 1))
    (fun pre W => ∃ c, Ix c pre W ∧ W.heap[w.heap.size + 1]? = some (.loop (rec .done (some c))) ∧ W.heap[w.heap.size]? = some (.deferred (some [])) ∧ ∀ x ∈ pre, off x (w.heap.size + 1))
    F0 W1 (by omega) bW hA (fun pre F W h b hb => (hIF _ _ _ h.1 b hb).1) ?_ ?_ ⟨hI _ _ _ _ (fun _ => False) h0 (Keeps.of_below bW) (fun _ h => h.elim), rec1, def1, fun x hx => by cases hx⟩).mono ?_
  · rintro pre F W W' N ⟨h1, h2, h3, h4⟩ hk hN
    exact ⟨hI _ _ _ _ N h1 hk (fun b hb => ⟨(hN b hb).1, by have := (hN b hb).2.1; omega, (hN b hb).2.2⟩), (hk.block _ (Array.getElem?_eq_some_iff.1 h2).1 (fun h => by have := (hN _ h).2.1; omega)).trans h2, (hk.block _ (Array.getElem?_eq_some_iff.1 h3).1 (fun h => by have := (hN _ h).2.1; omega)).trans h3, h4⟩
  · rintro pre F x W ⟨h1, h2, h3, h4⟩ hx
    have h5 : ∀ y ∈ pre ++ [x], off y (w.heap.size + 1) := fun y hy => by
      rcases List.mem_append.1 hy with hy | hy
      · exact h4 y hy
      · obtain rfl := List.mem_singleton.1 hy; exact hRo _ _ _ _ hx
    have hlt : w.heap.size + 1 < W.heap.size := (Array.getElem?_eq_some_iff.1 h2).1
    have hy := run_yield (P := P) (args := encs x) h2 (by rw [hrec]; exact hps x)
    rw [hrec] at hy
    refine ⟨fn, _, assign, body, hy, roundIn_of_wpIn hfn (hassign _ x W _ ⟨_, run_beginRound h2 (by rw [hrec]), ?_⟩)⟩
    have kc := keeps_putObj (W := W) (w.heap.size + 1) (.loop { rec .ready none with state := .busy })
    have e1 : (W.putObj (w.heap.size + 1) (.loop { rec .ready none with state := .busy })).heap[w.heap.size + 1]? = some (.loop { rec .ready none with state := .busy }) := World.putObj_heap_same hlt
    have e2 : (W.putObj (w.heap.size + 1) (.loop { rec .ready none with state := .busy })).heap[w.heap.size]? = some (.deferred (some [])) := (World.putObj_heap_other (by omega)).trans h3
    have hF := hIF _ _ _ h1
    have hIb := hI _ _ _ _ _ h1 kc (fun b hb => by subst hb; exact ⟨fun h => (hF _ h).2.2 rfl, by omega, h4⟩)
    have hbw := hbody (w.heap.size + 1) pre F x _ (Nat.le_trans hlt kc.size) hIb (hR _ _ _ _ _ _ hx h2 kc)
    have hleft : ∀ (c : Code) (W3 : World), ((W3.heap[w.heap.size]? = (W.putObj (w.heap.size + 1) (.loop { rec .ready none with state := .busy })).heap[w.heap.size]? ∧ W3.heap[w.heap.size + 1]? = (W.putObj (w.heap.size + 1) (.loop { rec .ready none with state := .busy })).heap[w.heap.size + 1]?) ∧ Ix c (pre ++ [x]) W3) →
        ∃ v w', (Instr.endRound (w.heap.size + 1) (some c)).run P W3 = .ok v w' ∧ ((Ending.returned v = .returned (.bool true) ∧ ∃ F', (I (pre ++ [x]) F' w' ∧ w'.heap[w.heap.size + 1]? = some (.loop (rec .ready none)) ∧ w'.heap[w.heap.size]? = some (.deferred (some [])) ∧ ∀ y ∈ pre ++ [x], off y (w.heap.size + 1)) ∧ Keeps F W w' ∧ ∀ b, F' b → F b ∨ W.heap.size ≤ b) ∨ (Ending.returned v = .returned (.bool false) ∧ ∃ c, Ix c (pre ++ [x]) w' ∧ w'.heap[w.heap.size + 1]? = some (.loop (rec .done (some c))) ∧ w'.heap[w.heap.size]? = some (.deferred (some [])) ∧ ∀ y ∈ pre ++ [x], off y (w.heap.size + 1))) := by
      rintro c W3 ⟨⟨q1, q2⟩, q3⟩
      have f1 := q2.trans e1
      have hr := run_endRound (P := P) (some c) f1
      have hl3 : w.heap.size + 1 < W3.heap.size := (Array.getElem?_eq_some_iff.1 f1).1
      refine ⟨_, _, hr, .inr ⟨rfl, c, hIx _ _ _ _ q3 h5 (keeps_putObj _ _), ?_, (World.putObj_heap_other (by omega)).trans (q1.trans e2), h5⟩⟩
      rw [World.putObj_heap_same hl3, hrec]; rfl
    refine wpIn_mono hbw ?_
    intro e a3 W3 hq
    cases e with
    | normal =>
      obtain ⟨F', hi3, hk3, hf3⟩ := hq
      have f1 := (hk3.block (w.heap.size + 1) (by simp [World.putObj]; omega) (fun h => (hF _ h).2.2 rfl)).trans e1
      have f2 := (hk3.block w.heap.size (by simp [World.putObj]; omega) (fun h => (hF _ h).2.1 rfl)).trans e2
      have hr := run_endRound (P := P) none f1
      have hl3 : w.heap.size + 1 < W3.heap.size := (Array.getElem?_eq_some_iff.1 f1).1
      have hback : ({ ({ rec .ready none with state := .busy } : Loop) with state := if (none : Option Code).isNone = true then LoopState.ready else LoopState.done, pending := none } : Loop) = rec .ready none := by rw [hrec]; rfl
      have hsz : (W.putObj (w.heap.size + 1) (.loop { rec .ready none with state := .busy })).heap.size = W.heap.size := by simp [World.putObj]
      refine ⟨_, _, hr, .inl ⟨rfl, F', ⟨hI _ _ _ _ _ hi3 (keeps_putObj _ _) (fun b hb => ?_), ?_, (World.putObj_heap_other (by omega)).trans f2, h5⟩, ?_, fun b hb => by have := hf3 b hb; rw [hsz] at this; exact this⟩⟩
      · subst hb
        refine ⟨fun h => ?_, by omega, h5⟩
        exact (hIF _ _ _ hi3 _ h).2.2 rfl
      · rw [World.putObj_heap_same hl3]
        exact congrArg (fun x => some (Obj.loop x)) hback
      · have k2 := keeps_putObj (W := W3) (w.heap.size + 1) (.loop { ({ rec .ready none with state := .busy } : Loop) with state := if (none : Option Code).isNone = true then LoopState.ready else LoopState.done, pending := none })
        refine ⟨k2.os.trans (hk3.os.trans kc.os), k2.tape.trans (hk3.tape.trans kc.tape), k2.output.trans (hk3.output.trans kc.output), Nat.le_trans kc.size (Nat.le_trans hk3.size k2.size), fun k hk hn => ?_⟩
        by_cases e9 : k = w.heap.size + 1
        · subst e9
          rw [World.putObj_heap_same hl3, h2]
          exact congrArg (fun x => some (Obj.loop x)) hback
        · exact (k2.block k (Nat.lt_of_lt_of_le hk (Nat.le_trans kc.size hk3.size)) e9).trans ((hk3.block k (Nat.lt_of_lt_of_le hk kc.size) hn).trans (kc.block k hk e9))
    | ret => exact hleft .ret W3 hq
    | exit id => exact hleft (.exit id) W3 hq
    | goto t => exact hleft (.goto t) W3 hq
    | panic c => exact hq.elim
    | outgrown => exact hq.elim
  · rintro e W2 ⟨⟨v, rfl⟩, hh⟩
    rcases hh with ⟨xs, F, hS, h1, h2, h3, h4⟩ | ⟨xs, hS, c, h1, h2, h3, h4⟩
    · have hend := run_endLoop (P := P) h2 (by rw [hrec]; simp)
      have hF := hIF _ _ _ h1
      rw [show (rec .ready none).pending = none by rw [hrec]] at hend
      exact ⟨none, _, hend, hdone _ xs F _ rfl hS (hI _ _ _ _ _ h1 (keeps_putObj _ _) (fun b hb => by subst hb; exact ⟨fun h => (hF _ h).2.2 rfl, by omega, h4⟩)) ((World.putObj_heap_other (by omega)).trans h3)⟩
    · have hend := run_endLoop (P := P) h2 (by rw [hrec]; simp)
      rw [show (rec .done (some c)).pending = some c by rw [hrec]] at hend
      exact ⟨some c, _, hend, hstop _ c xs _ rfl hS (hIx _ _ _ _ h1 h4 (keeps_putObj _ _)) ((World.putObj_heap_other (by omega)).trans h3)⟩
end Go.Proofs.Ytepkmhcchmladaa
