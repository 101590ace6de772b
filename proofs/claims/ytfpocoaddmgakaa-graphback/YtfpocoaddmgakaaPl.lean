/- A list of rows of the call's own, each of which grows by itself. -/
import Derived.Test.YtfpocoaddmgakaaUl
import Derived.Test.YtfpocoaddmgakaaGs1
namespace Go.Proofs.Ytfpocoaddmgakaa
open Go.RowKit
set_option linter.unusedVariables false
set_option linter.unusedSimpArgs false

def atK (K : List Value) (k : Nat) : Value := K[k]?.getD (.slice none 0 0)
theorem atK_set {K : List Value} {k i : Nat} {u : Value} (hk : k < K.length) : atK (K.set k u) i = if i = k then u else atK K i := by
  unfold atK
  rw [List.getElem?_set]
  by_cases h : k = i
  · subst h; simp [hk]
  · rw [if_neg h, if_neg (fun e => h e.symm)]
theorem atK_push {K : List Value} {u : Value} {i : Nat} : atK (K ++ [u]) i = if i = K.length then u else atK K i := by
  unfold atK
  by_cases e : i = K.length
  · rw [if_pos e, e, List.getElem?_append_right (Nat.le_refl _)]; simp
  · rw [if_neg e]
    by_cases h : i < K.length
    · rw [List.getElem?_append_left h]
    · rw [List.getElem?_eq_none (by simp; omega), List.getElem?_eq_none (by omega)]
abbrev ints (l : List Int) : List Value := l.map (Value.int .i64)

structure PL (B : Nat) (w : World) (ov : Value) (K : List Value) (C : Nat → List Int) : Prop where
  out : w.ownsRow B 22 1 ov K.length K
  own : ∀ k, k < K.length → w.ownsRow B 3 1 (atK K k) (C k).length (ints (C k))
  far : ∀ k, k < K.length → ∀ b, (atK K k).ownBlock = some b → ov.ownBlock ≠ some b
  sep : ∀ i k b, i < K.length → k < K.length → i ≠ k → (atK K i).ownBlock = some b → (atK K k).ownBlock ≠ some b

section
variable {B : Nat} {w : World} {ov : Value} {K : List Value} {C : Nat → List Int}
/-- The blocks that such a list has. -/
def PL.has (ov : Value) (K : List Value) (b : Nat) : Prop := ov.ownBlock = some b ∨ ∃ k, k < K.length ∧ (atK K k).ownBlock = some b
theorem PL.hasLt (h : PL B w ov K C) {b : Nat} (hb : PL.has ov K b) : B ≤ b ∧ b < w.heap.size := by
  rcases hb with hb | ⟨k, hk, hb⟩
  · exact h.out.lt b hb
  · exact (h.own k hk).lt b hb
theorem PL.keeps {N : Nat → Prop} {w' : World} (h : PL B w ov K C) (hk : Keeps N w w') (hn : ∀ b, PL.has ov K b → ¬ N b) : PL B w' ov K C :=
  ⟨owns_keeps h.out hk (fun b hb => hn b (.inl hb)), fun k hk2 => owns_keeps (h.own k hk2) hk (fun b hb => hn b (.inr ⟨k, hk2, hb⟩)), h.far, h.sep⟩
theorem PL.below {w' : World} (h : PL B w ov K C) (hb : Below w.heap.size w w') : PL B w' ov K C := h.keeps (Keeps.of_below (N := fun _ => False) hb) (fun _ _ h => h)
theorem PL.congr {C' : Nat → List Int} (h : PL B w ov K C) (hc : ∀ k, k < K.length → C k = C' k) : PL B w ov K C' :=
  ⟨h.out, fun k hk => by rw [← hc k hk]; exact h.own k hk, h.far, h.sep⟩
theorem PL.nil (B : Nat) (w : World) (C : Nat → List Int) : PL B w (.slice none 0 0) [] C :=
  ⟨World.ownsRow_nil _ _ _ _, fun k hk => by simp at hk, fun k hk => by simp at hk, fun i k b hi => by simp at hi⟩
theorem PL.form (h : PL B w ov K C) : ∃ a c, ov = .slice a K.length c ∧ K.length ≤ c := by
  rcases h.out.2 with ⟨rfl, h0⟩ | ⟨r, cap, cur, rfl, _, _, h1, _⟩
  · rw [h0]; exact ⟨_, _, rfl, Nat.le_refl _⟩
  · exact ⟨_, _, rfl, h1⟩
theorem PL.rowForm (h : PL B w ov K C) {k : Nat} (hk : k < K.length) : ∃ a c, atK K k = .slice a (C k).length c ∧ (C k).length ≤ c := by
  rcases (h.own k hk).2 with ⟨e, h0⟩ | ⟨r, cap, cur, e, _, _, h1, _⟩
  · rw [h0]; exact ⟨_, _, e, Nat.le_refl _⟩
  · exact ⟨_, _, e, h1⟩
/-- The row at place k, as the cell that holds it. -/
theorem PL.cellAt (h : PL B w ov K C) {k : Nat} (hk : k < K.length) : ∃ g c, ov = .slice (some ⟨g, 0, none⟩) K.length c ∧ K.length ≤ c ∧ w.cell? ⟨g, k, none⟩ = some (atK K k) ∧ w.frozen? ⟨g, k, none⟩ = false := by
  have ho := h.out
  rcases ho.2 with ⟨e, h0⟩ | ⟨g, cap, cur, e, _, _, h1, _⟩
  · omega
  · subst e
    refine ⟨g, cap, rfl, h1, ?_, ho.frozenAt k⟩
    rw [ho.cellAt k (by omega), List.getElem?_eq_getElem hk]
    simp [atK, hk]
/-- As rows that are read. -/
def PL.rv (K : List Value) (C : Nat → List Int) : List RV := (List.range K.length).map fun k => match atK K k with | .slice a _ c => (a, C k, c) | _ => (none, C k, (C k).length)
theorem PL.rvLen : (PL.rv K C).length = K.length := by simp [PL.rv]
theorem PL.rvAt {k : Nat} (hk : k < K.length) : (atV (PL.rv K C) k).2.1 = C k := by
  have e : (PL.rv K C)[k]? = some (match atK K k with | .slice a _ c => (a, C k, c) | _ => (none, C k, (C k).length)) := by simp [PL.rv, hk]
  unfold atV
  rw [e]
  show (match atK K k with | .slice a _ c => ((a, C k, c) : RV) | _ => (none, C k, (C k).length)).2.1 = C k
  split <;> rfl
theorem PL.rvEnc (h : PL B w ov K C) : (PL.rv K C).map encV = K := by
  apply List.ext_getElem?
  intro k
  by_cases hk : k < K.length
  · obtain ⟨a, c, e, _⟩ := h.rowForm hk
    simp only [PL.rv, List.map_map, List.getElem?_map, List.getElem?_range hk, Option.map_some, Function.comp, e]
    rw [List.getElem?_eq_getElem hk]
    have e2 : atK K k = K[k] := by simp [atK, hk]
    rw [← e2, e]; rfl
  · rw [List.getElem?_eq_none (by simp [PL.rvLen]; omega), List.getElem?_eq_none (by omega)]
theorem PL.rrow (h : PL B w ov K C) : ∃ a c, ov = .slice a K.length c ∧ RRow w a (PL.rv K C) := by
  have ho := h.out
  rw [← h.rvEnc, List.length_map, PL.rvLen] at ho
  obtain ⟨a, c, e, hr⟩ := rrow_of_owns ho (fun x hx => by
    obtain ⟨k, hk, rfl⟩ := List.mem_map.1 hx
    have hk := List.mem_range.1 hk
    obtain ⟨a, cap, e, hrow⟩ := row_of_owns (h.own k hk)
    rcases (h.own k hk).2 with ⟨e1, h0⟩ | ⟨r, cap2, cur, e1, _, _, h1, _⟩
    · rw [e1]
      exact ⟨.inl (List.eq_nil_of_length_eq_zero h0), by show (C k).length ≤ 0; omega⟩
    · rw [e] at e1
      cases e1
      simp only [e]
      exact ⟨hrow, h1⟩)
  exact ⟨a, c, e, hr⟩

/-- One row grows. -/
theorem PL.grow {w1 : World} {g m c k : Nat} {v' : Value} {x : Int} (h : PL B w (.slice (some ⟨g, 0, none⟩) m c) K C) (hk : k < K.length) (hB : B ≤ w.heap.size) (hown : w1.ownsRow B 3 1 v' ((C k).length + 1) (ints (C k) ++ [.int .i64 x])) (k1 : Keeps (fun b => (atK K k).ownBlock = some b) w w1) (hat : ∀ b, v'.ownBlock = some b → (atK K k).ownBlock = some b ∨ w.heap.size ≤ b) :
    PL B (w1.setCell ⟨g, k, none⟩ v') (.slice (some ⟨g, 0, none⟩) m c) (K.set k v') (fun i => if i = k then C k ++ [x] else C i) ∧ Keeps (fun b => b = g ∨ (atK K k).ownBlock = some b) w (w1.setCell ⟨g, k, none⟩ v') ∧ ∀ b, PL.has (.slice (some ⟨g, 0, none⟩) m c) (K.set k v') b → PL.has (.slice (some ⟨g, 0, none⟩) m c) K b ∨ w.heap.size ≤ b := by
  have ho := h.out
  obtain rfl : m = K.length := by
    rcases ho.2 with ⟨e, _⟩ | ⟨g', cap, cur, e, _⟩
    · cases e
    · cases e; rfl
  have hgl := (ho.lt g rfl).2
  have hgB := (ho.lt g rfl).1
  have gne : ∀ b, (atK K k).ownBlock = some b → b ≠ g := fun b hb e => h.far k hk b hb (by rw [e]; rfl)
  have ho1 := owns_keeps ho k1 (fun b hb e => by simp [Value.ownBlock] at hb; exact gne b e hb.symm)
  have k2 : Keeps (fun b => b = g) w1 (w1.setCell ⟨g, k, none⟩ v') := (Keeps.refl (fun b => b = g) w1).setCell (p := ⟨g, k, none⟩) rfl v'
  have old : ∀ i, i < K.length → ∀ b, (atK K i).ownBlock = some b → b < w.heap.size := fun i hi b hb => ((h.own i hi).lt b hb).2
  have hnew : ∀ b, v'.ownBlock = some b → b ≠ g ∧ ∀ i, i < K.length → i ≠ k → (atK K i).ownBlock ≠ some b := fun b hb => by
    rcases hat b hb with e | e
    · exact ⟨gne b e, fun i hi hne => h.sep k i b hk hi (fun e => hne e.symm) e⟩
    · exact ⟨by omega, fun i hi hne e2 => by have := old i hi b e2; omega⟩
  refine ⟨⟨?_, fun i hi => ?_, fun i hi b hb => ?_, fun i j b hi hj hij hb => ?_⟩, (k1.mono (fun b _ e => .inr e)).setCell (p := ⟨g, k, none⟩) (.inl rfl) v', ?_⟩
  · rw [List.length_set]; exact (ho1.stored k v').1
  · rw [List.length_set] at hi
    rw [atK_set hk]
    by_cases e : i = k
    · rw [if_pos e, if_pos e, List.length_append]
      have := owns_keeps hown k2 (fun b hb e => (hnew b hb).1 e)
      simpa [ints] using this
    · rw [if_neg e, if_neg e]
      exact owns_keeps (owns_keeps (h.own i hi) k1 (fun b hb e2 => h.sep i k b hi hk e hb e2)) k2 (fun b hb e2 => h.far i hi b hb (by rw [e2]; rfl))
  · rw [List.length_set] at hi
    rw [atK_set hk] at hb
    by_cases e : i = k
    · rw [if_pos e] at hb
      intro e2; simp [Value.ownBlock] at e2
      exact (hnew b hb).1 e2.symm
    · rw [if_neg e] at hb; exact h.far i hi b hb
  · rw [List.length_set] at hi hj
    rw [atK_set hk] at hb ⊢
    by_cases e : i = k
    · rw [if_pos e] at hb
      rw [if_neg (fun e2 => hij (e.trans e2.symm))]
      exact (hnew b hb).2 j hj (fun e2 => hij (e.trans e2.symm))
    · rw [if_neg e] at hb
      by_cases e2 : j = k
      · rw [if_pos e2]; intro e3; exact (hnew b e3).2 i hi e hb
      · rw [if_neg e2]; exact h.sep i j b hi hj hij hb
  · intro b hb
    rcases hb with hb | ⟨i, hi, hb⟩
    · exact .inl (.inl hb)
    · rw [List.length_set] at hi
      rw [atK_set hk] at hb
      by_cases e : i = k
      · rw [if_pos e] at hb
        rcases hat b hb with h1 | h1
        · exact .inl (.inr ⟨k, hk, h1⟩)
        · exact .inr h1
      · rw [if_neg e] at hb; exact .inl (.inr ⟨i, hi, hb⟩)
/-- An empty row more. -/
theorem PL.pushNil {w1 : World} {ov' : Value} (h : PL B w ov K C) (hown : w1.ownsRow B 22 1 ov' (K.length + 1) (K ++ [.slice none 0 0])) (k1 : Keeps (fun b => ov.ownBlock = some b) w w1) (hat : ∀ b, ov'.ownBlock = some b → ov.ownBlock = some b ∨ w.heap.size ≤ b) :
    PL B w1 ov' (K ++ [.slice none 0 0]) (fun i => if i = K.length then [] else C i) ∧ ∀ b, PL.has ov' (K ++ [.slice none 0 0]) b → PL.has ov K b ∨ w.heap.size ≤ b := by
  have key : ∀ i, i < (K ++ [Value.slice none 0 0]).length → ∀ b, (atK (K ++ [.slice none 0 0]) i).ownBlock = some b → i < K.length ∧ (atK K i).ownBlock = some b := fun i hi b hb => by
    rw [atK_push] at hb
    by_cases e : i = K.length
    · rw [if_pos e] at hb; cases hb
    · rw [if_neg e] at hb; simp at hi; exact ⟨by omega, hb⟩
  refine ⟨⟨by rw [List.length_append]; exact hown, fun i hi => ?_, fun i hi b hb e => ?_, fun i j b hi hj hij hb e => ?_⟩, fun b hb => ?_⟩
  · rw [atK_push]
    by_cases e : i = K.length
    · rw [if_pos e, if_pos e]; exact World.ownsRow_nil _ _ _ _
    · rw [if_neg e, if_neg e]
      have hi' : i < K.length := by simp at hi; omega
      exact owns_keeps (h.own i hi') k1 (fun b hb e => h.far i hi' b hb e)
  · obtain ⟨h1, h2⟩ := key i hi b hb
    rcases hat b e with e2 | e2
    · exact h.far i h1 b h2 e2
    · have := ((h.own i h1).lt b h2).2; omega
  · obtain ⟨h1, h2⟩ := key i hi b hb
    obtain ⟨h3, h4⟩ := key j hj b e
    exact h.sep i j b h1 h3 hij h2 h4
  · rcases hb with hb | ⟨i, hi, hb⟩
    · rcases hat b hb with h1 | h1
      · exact .inl (.inl h1)
      · exact .inr h1
    · obtain ⟨h1, h2⟩ := key i hi b hb; exact .inl (.inr ⟨i, h1, h2⟩)
/-- A list that was just made. -/
theorem PL.made {n g : Nat} (hB : B ≤ g) (hn : n ≤ maxLen) (hg : w.heap[g]? = some (.cells (madeCells #[.slice none 0 0] n) 22 (0, 0))) : PL B w (sl g n) (List.replicate n (.slice none 0 0)) (fun _ => []) := by
  have hat : ∀ k, atK (List.replicate n (.slice none 0 0)) k = .slice none 0 0 := fun k => by
    unfold atK; rw [List.getElem?_replicate]; by_cases h : k < n <;> simp [h]
  refine ⟨⟨by simp, .inr ⟨g, n, _, by simp, hB, hg, by simp, hn, ?_, ?_⟩⟩, fun k hk => ?_, fun k hk b hb => ?_, fun i k b hi hk _ hb => ?_⟩
  · have := congrArg List.length (made_rows n); simpa using this
  · rw [made_rows]; simp
  · rw [hat]; exact World.ownsRow_nil _ _ _ _
  · rw [hat] at hb; cases hb
  · rw [hat] at hb; cases hb
end
end Go.Proofs.Ytfpocoaddmgakaa
