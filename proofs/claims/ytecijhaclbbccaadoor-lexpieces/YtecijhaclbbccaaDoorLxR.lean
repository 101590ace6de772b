/- Mathematics of two texts joined by a newline. -/
import Derived.Test.YtecijhaclbbccaaDoorLxM2
namespace Go.Proofs.YtecijhaclbbccaaDoor
set_option linter.unusedVariables false
set_option linter.unusedSimpArgs false

theorem wordM_app (b : Bytes) : ∀ r : Bytes, wordM (r ++ 10 :: b) = wordM r
  | [] => by rw [List.nil_append, wordM_cons, if_neg (by decide)]; rfl
  | x :: r => by rw [List.cons_append, wordM_cons, wordM_cons, wordM_app b r]
theorem wordN_app (kind : Int) (r b : Bytes) (p : Nat) : wordN kind (r ++ 10 :: b) p = wordN kind r p := by
  unfold wordN
  rw [wordM_app, List.take_append_of_le_length (wordM_le r)]
theorem numGo_app (b : Bytes) : ∀ (r : Bytes) (num k : Nat), numGo (r ++ 10 :: b) num k = numGo r num k
  | [], num, k => by simp [numGo, digB]
  | x :: r, num, k => by
    rw [List.cons_append, numGo, numGo]
    split
    · split
      · rfl
      · exact numGo_app b r _ _
    · rfl
theorem strGo_cons (p : Nat) (b : UInt8) (r : Bytes) (i : Nat) (acc : Bytes) : strGo p (b :: r) i acc = (if b.toNat = 34 then (if 40 < acc.length then .no 3 p else .ok ⟨4, ⟨acc.toArray⟩, 0, p⟩ (i + 1))
    else if b.toNat < 32 then .no 1 i
    else if b.toNat = 92 then (match r with
      | [] => .no 1 i
      | c :: r' => if c.toNat = 110 then strGo p r' (i + 2) (acc ++ [10]) else if c.toNat = 34 ∨ c.toNat = 92 then strGo p r' (i + 2) (acc ++ [c]) else .no 1 i)
    else strGo p r (i + 1) (acc ++ [b])) := by rw [strGo.eq_def]; cases r <;> rfl
theorem strGo_nil (p i : Nat) (acc : Bytes) : strGo p [] i acc = .no 1 i := by rw [strGo.eq_def]
theorem strGo_app (b : Bytes) (p : Nat) (t : Tk) (e : Nat) : ∀ (f : Nat) (r : Bytes) (i : Nat) (acc : Bytes), r.length ≤ f → strGo p r i acc = .ok t e → strGo p (r ++ 10 :: b) i acc = .ok t e := by
  intro f
  induction f with
  | zero =>
    intro r i acc hl h
    obtain rfl : r = [] := List.length_eq_zero_iff.1 (by omega)
    rw [strGo_nil] at h; cases h
  | succ f ih =>
    intro r i acc hl h
    cases r with
    | nil => rw [strGo_nil] at h; cases h
    | cons x r =>
      rw [List.length_cons] at hl
      rw [List.cons_append]
      rw [strGo_cons] at h ⊢
      by_cases h1 : x.toNat = 34
      · rw [if_pos h1] at h ⊢; exact h
      rw [if_neg h1] at h ⊢
      by_cases h2 : x.toNat < 32
      · rw [if_pos h2] at h; cases h
      rw [if_neg h2] at h ⊢
      by_cases h3 : x.toNat = 92
      · rw [if_pos h3] at h ⊢
        cases r with
        | nil => cases h
        | cons c r =>
          rw [List.length_cons] at hl
          simp only [List.cons_append] at h ⊢
          by_cases h4 : c.toNat = 110
          · rw [if_pos h4] at h ⊢; exact ih _ _ _ (by omega) h
          rw [if_neg h4] at h ⊢
          by_cases h5 : c.toNat = 34 ∨ c.toNat = 92
          · rw [if_pos h5] at h ⊢; exact ih _ _ _ (by omega) h
          · rw [if_neg h5] at h; cases h
      · rw [if_neg h3] at h ⊢; exact ih _ _ _ (by omega) h
theorem prefix_app (b : Bytes) : ∀ (x r : Bytes), (10 : UInt8) ∉ x → x.isPrefixOf (r ++ 10 :: b) = x.isPrefixOf r
  | [], r, _ => by simp
  | c :: x, [], h => by
    have hc : (c == (10 : UInt8)) = false := beq_eq_false_iff_ne.2 (fun e => h (by simp [e]))
    simp [List.isPrefixOf, hc]
  | c :: x, d :: r, h => by
    rw [List.cons_append, List.isPrefixOf, List.isPrefixOf, prefix_app b x r (fun e => h (List.mem_cons_of_mem _ e))]
theorem signGo_app (b r : Bytes) (p : Nat) : ∀ l : List Bytes, (∀ x ∈ l, (10 : UInt8) ∉ x) → signGo (r ++ 10 :: b) p l = signGo r p l
  | [], _ => rfl
  | x :: l, h => by
    rw [signGo, signGo, prefix_app b x r (h x (List.mem_cons_self ..)), signGo_app b r p l (fun y hy => h y (List.mem_cons_of_mem _ hy))]
theorem signs_no10 : ∀ x ∈ signs, (10 : UInt8) ∉ x := by decide
theorem next_app (b : Bytes) {r : Bytes} {p : Nat} {t : Tk} {e : Nat} (h : nextM r p = .ok t e) : nextM (r ++ 10 :: b) p = .ok t e := by
  cases r with
  | nil => rw [nextM] at h; cases h
  | cons x r =>
    rw [List.cons_append]
    unfold nextM at h ⊢
    simp only at h ⊢
    rw [← List.cons_append, wordN_app, wordN_app, signGo_app b (x :: r) p signs signs_no10]
    by_cases h1 : lowB x.toNat = true
    · rw [if_pos h1] at h ⊢; exact h
    rw [if_neg h1] at h ⊢
    by_cases h2 : upB x.toNat = true
    · rw [if_pos h2] at h ⊢; exact h
    rw [if_neg h2] at h ⊢
    by_cases h3 : digB x.toNat = true
    · rw [if_pos h3] at h ⊢
      unfold numN at h ⊢
      rw [numGo_app]; exact h
    rw [if_neg h3] at h ⊢
    by_cases h4 : x.toNat = 34
    · rw [if_pos h4] at h ⊢; exact strGo_app b p t e _ _ _ _ (Nat.le_refl _) h
    · rw [if_neg h4] at h ⊢; exact h
theorem skip_app (b : Bytes) : ∀ (c : Bool) (r : Bytes), skipM c (r ++ 10 :: b) = if skipM c r < r.length then skipM c r else r.length + 1 + skipM false b
  | false, [] => by simp [skipM, blankB]
  | true, [] => by simp [skipM]
  | false, x :: r => by
    have h1 := skip_app b true r
    have h2 := skip_app b false r
    rw [List.cons_append, skipM, skipM, h1, h2, List.length_cons]
    by_cases e1 : x.toNat = 35
    · rw [if_pos e1, if_pos e1]; split <;> split <;> omega
    · rw [if_neg e1, if_neg e1]
      by_cases e2 : blankB x.toNat = true
      · rw [if_pos e2, if_pos e2]; split <;> split <;> omega
      · rw [if_neg e2, if_neg e2, if_pos (by omega)]
  | true, x :: r => by
    have h1 := skip_app b true r
    have h2 := skip_app b false r
    rw [List.cons_append, skipM, skipM, h1, h2, List.length_cons]
    by_cases e1 : x.toNat = 10
    · rw [if_pos e1, if_pos e1]; split <;> split <;> omega
    · rw [if_neg e1, if_neg e1]; split <;> split <;> omega
def Tk.up (d : Nat) (t : Tk) : Tk := ⟨t.kind, t.text, t.num, t.at' + d⟩
def Nx.up (d : Nat) : Nx → Nx
  | .ok t e => .ok (t.up d) (e + d)
  | .no a p => .no a (p + d)
def Rs.up (d : Nat) : Rs → Rs
  | .ok l => .ok (l.map (Tk.up d))
  | .no a p => .no a (p + d)
theorem wordN_up (kind : Int) (r : Bytes) (p d : Nat) : wordN kind r (p + d) = (wordN kind r p).up d := by
  unfold wordN
  split
  · rfl
  · simp only [Nx.up, Tk.up, Nx.ok.injEq, Tk.mk.injEq, true_and]; omega
theorem numN_up (r : Bytes) (p d : Nat) : numN r (p + d) = (numN r p).up d := by
  unfold numN
  split
  · rfl
  · simp only [Nx.up, Tk.up, Nx.ok.injEq, Tk.mk.injEq, true_and]; omega
theorem signGo_up (r : Bytes) (p d : Nat) : ∀ l, signGo r (p + d) l = (signGo r p l).up d
  | [] => rfl
  | x :: l => by
    rw [signGo, signGo, signGo_up r p d l]
    split
    · simp only [Nx.up, Tk.up, Nx.ok.injEq, Tk.mk.injEq, true_and]; omega
    · rfl
theorem strGo_up (p d : Nat) : ∀ (f : Nat) (r : Bytes) (i : Nat) (acc : Bytes), r.length ≤ f → strGo (p + d) r (i + d) acc = (strGo p r i acc).up d := by
  intro f
  induction f with
  | zero =>
    intro r i acc hl
    obtain rfl : r = [] := List.length_eq_zero_iff.1 (by omega)
    rw [strGo_nil, strGo_nil]; rfl
  | succ f ih =>
    intro r i acc hl
    cases r with
    | nil => rw [strGo_nil, strGo_nil]; rfl
    | cons x r =>
      rw [List.length_cons] at hl
      rw [strGo_cons, strGo_cons]
      by_cases h1 : x.toNat = 34
      · rw [if_pos h1, if_pos h1]
        split
        · rfl
        · simp only [Nx.up, Tk.up, Nx.ok.injEq, Tk.mk.injEq, true_and]; omega
      rw [if_neg h1, if_neg h1]
      by_cases h2 : x.toNat < 32
      · rw [if_pos h2, if_pos h2]; rfl
      rw [if_neg h2, if_neg h2]
      by_cases h3 : x.toNat = 92
      · rw [if_pos h3, if_pos h3]
        cases r with
        | nil => rfl
        | cons c r =>
          rw [List.length_cons] at hl
          simp only
          by_cases h4 : c.toNat = 110
          · rw [if_pos h4, if_pos h4, show i + d + 2 = i + 2 + d by omega]; exact ih _ _ _ (by omega)
          rw [if_neg h4, if_neg h4]
          by_cases h5 : c.toNat = 34 ∨ c.toNat = 92
          · rw [if_pos h5, if_pos h5, show i + d + 2 = i + 2 + d by omega]; exact ih _ _ _ (by omega)
          · rw [if_neg h5, if_neg h5]; rfl
      · rw [if_neg h3, if_neg h3, show i + d + 1 = i + 1 + d by omega]; exact ih _ _ _ (by omega)
theorem next_up (r : Bytes) (p d : Nat) : nextM r (p + d) = (nextM r p).up d := by
  cases r with
  | nil => rfl
  | cons x r =>
    unfold nextM
    simp only
    rw [wordN_up, wordN_up, numN_up, signGo_up, show p + d + 1 = p + 1 + d by omega, strGo_up p d _ _ _ _ (Nat.le_refl _)]
    repeat' split
    all_goals rfl
theorem up_cons (d : Nat) (t : Tk) (r : Rs) : (r.cons t).up d = (r.up d).cons (t.up d) := by cases r <;> rfl
theorem cons_pre (t : Tk) (y : List Tk) (r : Rs) : (r.pre y).cons t = r.pre (t :: y) := by cases r <;> rfl
theorem all_up (a b : Bytes) : ∀ (k p : Nat), b.length - p ≤ k → p ≤ b.length → allP (a ++ 10 :: b) (p + (a.length + 1)) = (allP b p).up (a.length + 1) := by
  have hd : ∀ q, (a ++ 10 :: b).drop (q + (a.length + 1)) = b.drop q := fun q => by
    rw [show q + (a.length + 1) = a.length + (q + 1) by omega, ← List.drop_drop, List.drop_left]; rfl
  have hL : (a ++ 10 :: b).length = b.length + (a.length + 1) := by simp; omega
  intro k
  induction k with
  | zero =>
    intro p hk hp
    rw [allP_end (by omega), allP_end (by omega), hL]
    simp [Rs.up, Tk.up]
  | succ k ih =>
    intro p hk hp
    by_cases hlt : p < b.length
    · have hn := next_up (b.drop p) p (a.length + 1)
      cases hx : nextM (b.drop p) p with
      | no u v =>
        rw [hx] at hn
        rw [allP_no hlt hx, allP_no (by omega) (by rw [hd]; exact hn)]
        rfl
      | ok t e =>
        rw [hx] at hn
        have ok := next_ok hlt
        rw [hx] at ok
        obtain ⟨o1, o2, _⟩ := ok
        rw [allP_ok hlt hx, allP_ok (by omega) (by rw [hd]; exact hn), up_cons, hd]
        have := skip_le false (b.drop e)
        rw [List.length_drop] at this
        rw [← ih (e + skipM false (b.drop e)) (by omega) (by omega)]
        congr 2; omega
    · rw [allP_end (by omega), allP_end (by omega), hL]
      simp [Rs.up, Tk.up]
theorem all_join (a b : Bytes) : ∀ (k p : Nat) (x : List Tk), a.length - p ≤ k → p ≤ a.length → allP a p = .ok x → ∃ y, x = y ++ [⟨0, ⟨#[]⟩, 0, a.length⟩] ∧ allP (a ++ 10 :: b) (if p < a.length then p else a.length + 1 + skipM false b) = ((allM b).up (a.length + 1)).pre y := by
  have hd : ∀ q, q ≤ a.length → (a ++ 10 :: b).drop q = a.drop q ++ 10 :: b := fun q h => List.drop_append_of_le_length h
  have hL : (a ++ 10 :: b).length = b.length + (a.length + 1) := by simp; omega
  have hend : ∀ p x, ¬ p < a.length → allP a p = .ok x → ∃ y, x = y ++ [⟨0, ⟨#[]⟩, 0, a.length⟩] ∧ allP (a ++ 10 :: b) (if p < a.length then p else a.length + 1 + skipM false b) = ((allM b).up (a.length + 1)).pre y := fun p x hp h => by
    rw [allP_end hp] at h
    cases h
    refine ⟨[], rfl, ?_⟩
    rw [if_neg hp, show a.length + 1 + skipM false b = skipM false b + (a.length + 1) by omega, all_up a b _ _ (Nat.le_refl _) (skip_le false b), allM_eq]
    cases (allP b (skipM false b)).up (a.length + 1) <;> rfl
  intro k
  induction k with
  | zero => intro p x hk hp h; exact hend p x (by omega) h
  | succ k ih =>
    intro p x hk hp h
    by_cases hlt : p < a.length
    · cases hx : nextM (a.drop p) p with
      | no u v => rw [allP_no hlt hx] at h; cases h
      | ok t e =>
        have ok := next_ok hlt
        rw [hx] at ok
        obtain ⟨o1, o2, _⟩ := ok
        rw [allP_ok hlt hx] at h
        cases hr : allP a (e + skipM false (a.drop e)) with
        | no u v => rw [hr] at h; cases h
        | ok z =>
          rw [hr] at h
          cases h
          have hs := skip_le false (a.drop e)
          rw [List.length_drop] at hs
          obtain ⟨y, rfl, hy⟩ := ih _ z (by omega) (by omega) hr
          refine ⟨t :: y, rfl, ?_⟩
          rw [if_pos hlt, allP_ok (by omega) (by rw [hd p hp]; exact next_app b hx), hd e o2, skip_app, ← cons_pre, ← hy, List.length_drop]
          congr 2
          split <;> split <;> omega
    · exact hend p x hlt h
theorem all_joined {a b : Bytes} {x : List Tk} (h : allM a = .ok x) : ∃ y, x = y ++ [⟨0, ⟨#[]⟩, 0, a.length⟩] ∧ allM (a ++ 10 :: b) = ((allM b).up (a.length + 1)).pre y := by
  rw [allM_eq] at h
  obtain ⟨y, h1, h2⟩ := all_join a b _ _ x (Nat.le_refl _) (skip_le false a) h
  refine ⟨y, h1, ?_⟩
  rw [← h2, allM_eq, skip_app]
end Go.Proofs.YtecijhaclbbccaaDoor
