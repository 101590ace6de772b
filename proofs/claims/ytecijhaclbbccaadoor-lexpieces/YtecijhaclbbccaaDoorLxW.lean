/- Mathematics of tokens written one after another, with blanks between them. -/
import Derived.Test.YtecijhaclbbccaaDoorLxR
import Derived.Test.YtecijhaclbbccaaDoorLxN
namespace Go.Proofs.YtecijhaclbbccaaDoor
set_option linter.unusedVariables false
set_option linter.unusedSimpArgs false

theorem blank_cases {g : UInt8} (h : blankB g.toNat = true) : g = 32 ∨ g = 9 ∨ g = 13 ∨ g = 10 := by
  unfold blankB at h
  simp only [Bool.or_eq_true, decide_eq_true_eq] at h
  rcases h with ((h | h) | h) | h
  · exact .inl ((u8_eq (by decide) h).trans rfl)
  · exact .inr (.inl ((u8_eq (by decide) h).trans rfl))
  · exact .inr (.inr (.inl ((u8_eq (by decide) h).trans rfl)))
  · exact .inr (.inr (.inr ((u8_eq (by decide) h).trans rfl)))
theorem blank_word {g : UInt8} (h : blankB g.toNat = true) : wordB g.toNat = false ∧ digB g.toNat = false := by
  rcases blank_cases h with rfl | rfl | rfl | rfl <;> exact ⟨by decide, by decide⟩
theorem blank_signs {g : UInt8} (h : blankB g.toNat = true) : ∀ x ∈ signs, g ∉ x := by
  rcases blank_cases h with rfl | rfl | rfl | rfl <;> decide
theorem wordM_stop {g : UInt8} (hg : wordB g.toNat = false) (b : Bytes) : ∀ r : Bytes, wordM (r ++ g :: b) = wordM r
  | [] => by rw [List.nil_append, wordM_cons, if_neg (by rw [hg]; decide)]; rfl
  | x :: r => by rw [List.cons_append, wordM_cons, wordM_cons, wordM_stop hg b r]
theorem wordN_stop {g : UInt8} (hg : wordB g.toNat = false) (kind : Int) (r b : Bytes) (p : Nat) : wordN kind (r ++ g :: b) p = wordN kind r p := by
  unfold wordN
  rw [wordM_stop hg, List.take_append_of_le_length (wordM_le r)]
theorem numGo_stop {g : UInt8} (hg : digB g.toNat = false) (b : Bytes) : ∀ (r : Bytes) (num k : Nat), numGo (r ++ g :: b) num k = numGo r num k
  | [], num, k => by show numGo (g :: b) num k = some (num, k); rw [numGo.eq_def]; simp [hg]
  | x :: r, num, k => by
    rw [List.cons_append, numGo, numGo]
    split
    · split
      · rfl
      · exact numGo_stop hg b r _ _
    · rfl
theorem strGo_stop (g : UInt8) (b : Bytes) (p : Nat) (t : Tk) (e : Nat) : ∀ (f : Nat) (r : Bytes) (i : Nat) (acc : Bytes), r.length ≤ f → strGo p r i acc = .ok t e → strGo p (r ++ g :: b) i acc = .ok t e := by
  intro f
  induction f with
  | zero =>
    intro r i acc hl h
    obtain rfl : r = [] := List.length_eq_zero_iff.1 (by omega)
    rw [strGo_nil] at h; cases h
  | succ f ih =>
    intro r i acc hl h
    cases r with
    | nil => rw [strGo_nil] at h; cases h
    | cons x r =>
      rw [List.length_cons] at hl
      rw [List.cons_append]
      rw [strGo_cons] at h ⊢
      by_cases h1 : x.toNat = 34
      · rw [if_pos h1] at h ⊢; exact h
      rw [if_neg h1] at h ⊢
      by_cases h2 : x.toNat < 32
      · rw [if_pos h2] at h; cases h
      rw [if_neg h2] at h ⊢
      by_cases h3 : x.toNat = 92
      · rw [if_pos h3] at h ⊢
        cases r with
        | nil => cases h
        | cons c r =>
          rw [List.length_cons] at hl
          simp only [List.cons_append] at h ⊢
          by_cases h4 : c.toNat = 110
          · rw [if_pos h4] at h ⊢; exact ih _ _ _ (by omega) h
          rw [if_neg h4] at h ⊢
          by_cases h5 : c.toNat = 34 ∨ c.toNat = 92
          · rw [if_pos h5] at h ⊢; exact ih _ _ _ (by omega) h
          · rw [if_neg h5] at h; cases h
      · rw [if_neg h3] at h ⊢; exact ih _ _ _ (by omega) h
theorem prefix_stop (g : UInt8) (b : Bytes) : ∀ (x r : Bytes), g ∉ x → x.isPrefixOf (r ++ g :: b) = x.isPrefixOf r
  | [], r, _ => by simp
  | c :: x, [], h => by
    have hc : (c == g) = false := beq_eq_false_iff_ne.2 (fun e => h (by simp [e]))
    simp [List.isPrefixOf, hc]
  | c :: x, d :: r, h => by
    rw [List.cons_append, List.isPrefixOf, List.isPrefixOf, prefix_stop g b x r (fun e => h (List.mem_cons_of_mem _ e))]
theorem signGo_stop (g : UInt8) (b r : Bytes) (p : Nat) : ∀ l : List Bytes, (∀ x ∈ l, g ∉ x) → signGo (r ++ g :: b) p l = signGo r p l
  | [], _ => rfl
  | x :: l, h => by
    rw [signGo, signGo, prefix_stop g b x r (h x (List.mem_cons_self ..)), signGo_stop g b r p l (fun y hy => h y (List.mem_cons_of_mem _ hy))]
/-- A token ends before a blank, whatever follows. -/
theorem next_stop {g : UInt8} (hg : blankB g.toNat = true) (b : Bytes) {r : Bytes} {p : Nat} {t : Tk} {e : Nat} (h : nextM r p = .ok t e) : nextM (r ++ g :: b) p = .ok t e := by
  obtain ⟨hw, hd⟩ := blank_word hg
  have hs := blank_signs hg
  cases r with
  | nil => rw [nextM] at h; cases h
  | cons x r =>
    rw [List.cons_append]
    unfold nextM at h ⊢
    simp only at h ⊢
    rw [← List.cons_append, wordN_stop hw, wordN_stop hw, signGo_stop g b (x :: r) p signs hs]
    by_cases h1 : lowB x.toNat = true
    · rw [if_pos h1] at h ⊢; exact h
    rw [if_neg h1] at h ⊢
    by_cases h2 : upB x.toNat = true
    · rw [if_pos h2] at h ⊢; exact h
    rw [if_neg h2] at h ⊢
    by_cases h3 : digB x.toNat = true
    · rw [if_pos h3] at h ⊢
      unfold numN at h ⊢
      rw [numGo_stop hd]; exact h
    rw [if_neg h3] at h ⊢
    by_cases h4 : x.toNat = 34
    · rw [if_pos h4] at h ⊢; exact strGo_stop g b p t e _ _ _ _ (Nat.le_refl _) h
    · rw [if_neg h4] at h ⊢; exact h
/-- A number's digits. -/
def digs (n : Nat) : Bytes := if h : n = 0 then [] else digs (n / 10) ++ [UInt8.ofNat (48 + n % 10)]
termination_by n
decreasing_by omega
theorem digs_zero : digs 0 = [] := by rw [digs]; rfl
theorem digs_pos {n : Nat} (h : n ≠ 0) : digs n = digs (n / 10) ++ [UInt8.ofNat (48 + n % 10)] := by rw [digs, dif_neg h]
def digT (n : Nat) : Bytes := if n = 0 then [48] else digs n
theorem dig_byte (n : Nat) : (UInt8.ofNat (48 + n % 10)).toNat = 48 + n % 10 := by
  rw [UInt8.toNat_ofNat']; omega
theorem numGo_snoc (d : UInt8) (hd : digB d.toNat = true) : ∀ (l : Bytes) (a k m j : Nat), numGo l a k = some (m, j) → j = k + l.length → ¬ (9223372036854775808 - (d.toNat - 48)) / 10 < m → numGo (l ++ [d]) a k = some (m * 10 + (d.toNat - 48), j + 1)
  | [], a, k, m, j, h, _, hm => by
    rw [numGo] at h
    cases h
    rw [List.nil_append, numGo, if_pos hd, if_neg hm, numGo]
  | b :: l, a, k, m, j, h, hj, hm => by
    rw [numGo] at h
    rw [List.length_cons] at hj
    by_cases hb : digB b.toNat = true
    · rw [if_pos hb] at h
      by_cases hc : (9223372036854775808 - (b.toNat - 48)) / 10 < a
      · rw [if_pos hc] at h; cases h
      · rw [if_neg hc] at h
        rw [List.cons_append, numGo, if_pos hb, if_neg hc]
        exact numGo_snoc d hd l _ _ _ _ h (by omega) hm
    · rw [if_neg hb] at h; cases h; omega
theorem numGo_digs (n : Nat) : n ≤ 9223372036854775808 → numGo (digs n) 0 0 = some (n, (digs n).length) := by
  induction n using Nat.strongRecOn with
  | _ n ih =>
    intro hn
    by_cases h : n = 0
    · subst h; rw [digs_zero]; rfl
    · have h1 := ih (n / 10) (by omega) (by omega)
      rw [digs_pos h, List.length_append]
      have hb := dig_byte n
      have h2 := numGo_snoc (UInt8.ofNat (48 + n % 10)) (by rw [hb]; unfold digB; simp; omega) _ _ _ _ _ h1 (by omega) (by rw [hb]; omega)
      rw [h2, hb]
      congr 2
      omega
theorem digs_head (n : Nat) (h : n ≠ 0) : ∃ c r, digs n = c :: r ∧ digB c.toNat = true := by
  induction n using Nat.strongRecOn with
  | _ n ih =>
    rw [digs_pos h]
    by_cases h2 : n / 10 = 0
    · rw [h2, digs_zero]
      exact ⟨_, [], rfl, by rw [dig_byte]; unfold digB; simp; omega⟩
    · obtain ⟨c, r, h3, h4⟩ := ih (n / 10) (by omega) h2
      exact ⟨c, r ++ [UInt8.ofNat (48 + n % 10)], by rw [h3]; rfl, h4⟩
theorem digs_len (n : Nat) : ∀ k, n < 10 ^ k → (digs n).length ≤ k := by
  induction n using Nat.strongRecOn with
  | _ n ih =>
    intro k hk
    by_cases h : n = 0
    · subst h; rw [digs_zero]; simp
    · cases k with
      | zero => simp at hk; omega
      | succ k =>
        have := ih (n / 10) (by omega) k (by rw [Nat.pow_succ] at hk; omega)
        rw [digs_pos h, List.length_append]
        simp only [List.length_cons, List.length_nil]; omega
theorem next_digs {n : Nat} (hn : n ≤ 9223372036854775808) : nextM (digT n) 0 = .ok ⟨3, ⟨#[]⟩, n, 0⟩ (digT n).length := by
  unfold digT
  by_cases h : n = 0
  · subst h; rfl
  · rw [if_neg h]
    obtain ⟨c, r, hc, hd⟩ := digs_head n h
    have hg := numGo_digs n hn
    rw [hc] at hg ⊢
    have h1 : ¬ lowB c.toNat = true := by unfold digB at hd; unfold lowB; simp at *; omega
    have h2 : ¬ upB c.toNat = true := by unfold digB at hd; unfold upB; simp at *; omega
    unfold nextM
    simp only
    rw [if_neg h1, if_neg h2, if_pos hd]
    unfold numN
    rw [hg]
    simp
def nameT : List Bytes := [[112], [101, 100, 103, 101], [110, 111, 116], [109, 105, 110], [120, 95, 49], [97, 66]]
def varT : List Bytes := [[88], [89, 49], [67, 111, 115, 116], [65, 95, 98], [90], [81, 57]]
def strT : List Bytes := [[], [97, 32, 98], [34], [92], [120, 10, 121], [195, 169, 35]]
def gapT : List Bytes := [[32], [10], [9, 32], [32, 35, 32, 109, 111, 114, 101, 10], [13, 10], [32, 35, 10, 35, 120, 10, 32]]
def endT : Bytes := [35, 32, 116, 104, 101, 32, 101, 110, 100]
def numOf (u : Nat) : Nat := if u % 6 = 5 then 9223372036854775808 else u / 2
/-- A token and how it is written. -/
def pcT (K u : Nat) : Bytes := match K with
  | 0 => nameT.getD (u % 6) []
  | 1 => varT.getD (u % 6) []
  | 2 => digT (numOf u)
  | 3 => quoteT (strT.getD (u % 6) [])
  | _ => signs.getD (u % 18) []
def pcK (K u : Nat) : Tk := match K with
  | 0 => ⟨1, ⟨(nameT.getD (u % 6) []).toArray⟩, 0, 0⟩
  | 1 => ⟨2, ⟨(varT.getD (u % 6) []).toArray⟩, 0, 0⟩
  | 2 => ⟨3, ⟨#[]⟩, numOf u, 0⟩
  | 3 => ⟨4, ⟨(strT.getD (u % 6) []).toArray⟩, 0, 0⟩
  | _ => ⟨5, ⟨(signs.getD (u % 18) []).toArray⟩, 0, 0⟩
theorem name_next : ∀ i, i < 6 → nextM (nameT.getD i []) 0 = .ok ⟨1, ⟨(nameT.getD i []).toArray⟩, 0, 0⟩ (nameT.getD i []).length := by
  intro i hi
  match i, hi with
  | 0, _ => rfl
  | 1, _ => rfl
  | 2, _ => rfl
  | 3, _ => rfl
  | 4, _ => rfl
  | 5, _ => rfl
theorem var_next : ∀ i, i < 6 → nextM (varT.getD i []) 0 = .ok ⟨2, ⟨(varT.getD i []).toArray⟩, 0, 0⟩ (varT.getD i []).length := by
  intro i hi
  match i, hi with
  | 0, _ => rfl
  | 1, _ => rfl
  | 2, _ => rfl
  | 3, _ => rfl
  | 4, _ => rfl
  | 5, _ => rfl
theorem str_fine : ∀ i, i < 6 → (strT.getD i []).all fineB = true ∧ (strT.getD i []).length ≤ 3 := by decide
theorem str_next (i : Nat) (hi : i < 6) : nextM (quoteT (strT.getD i [])) 0 = .ok ⟨4, ⟨(strT.getD i []).toArray⟩, 0, 0⟩ (quoteT (strT.getD i [])).length := by
  obtain ⟨h1, h2⟩ := str_fine i hi
  generalize strT.getD i [] = l at *
  unfold quoteT
  rw [next_quote, strGo_fine 0 l 1 [] h1, List.nil_append, if_neg (by omega)]
  simp; omega
theorem sign_next (i : Nat) (hi : i < 18) : nextM (signs.getD i []) 0 = .ok ⟨5, ⟨(signs.getD i []).toArray⟩, 0, 0⟩ (signs.getD i []).length := by
  have h : i = 0 ∨ i = 1 ∨ i = 2 ∨ i = 3 ∨ i = 4 ∨ i = 5 ∨ i = 6 ∨ i = 7 ∨ i = 8 ∨ i = 9 ∨ i = 10 ∨ i = 11 ∨ i = 12 ∨ i = 13 ∨ i = 14 ∨ i = 15 ∨ i = 16 ∨ i = 17 := by omega
  rcases h with rfl | rfl | rfl | rfl | rfl | rfl | rfl | rfl | rfl | rfl | rfl | rfl | rfl | rfl | rfl | rfl | rfl | rfl <;> rfl
theorem numOf_le {u : Nat} (hu : u < 18446744073709551616) : numOf u ≤ 9223372036854775808 := by unfold numOf; split <;> omega
theorem pc_next (K u : Nat) (hu : u < 18446744073709551616) : nextM (pcT K u) 0 = .ok (pcK K u) (pcT K u).length := by
  match K with
  | 0 => exact name_next _ (by omega)
  | 1 => exact var_next _ (by omega)
  | 2 => exact next_digs (numOf_le hu)
  | 3 => exact str_next _ (by omega)
  | K + 4 => exact sign_next _ (by omega)
/-- A text that no blank and no comment begins. -/
def HeadOK (x : Bytes) : Prop := ∃ c r, x = c :: r ∧ ¬ c.toNat = 35 ∧ ¬ blankB c.toNat = true
theorem headOK_name : ∀ i, i < 6 → HeadOK (nameT.getD i []) := by
  intro i hi
  match i, hi with
  | 0, _ => exact ⟨_, _, rfl, by decide, by decide⟩
  | 1, _ => exact ⟨_, _, rfl, by decide, by decide⟩
  | 2, _ => exact ⟨_, _, rfl, by decide, by decide⟩
  | 3, _ => exact ⟨_, _, rfl, by decide, by decide⟩
  | 4, _ => exact ⟨_, _, rfl, by decide, by decide⟩
  | 5, _ => exact ⟨_, _, rfl, by decide, by decide⟩
theorem headOK_var : ∀ i, i < 6 → HeadOK (varT.getD i []) := by
  intro i hi
  match i, hi with
  | 0, _ => exact ⟨_, _, rfl, by decide, by decide⟩
  | 1, _ => exact ⟨_, _, rfl, by decide, by decide⟩
  | 2, _ => exact ⟨_, _, rfl, by decide, by decide⟩
  | 3, _ => exact ⟨_, _, rfl, by decide, by decide⟩
  | 4, _ => exact ⟨_, _, rfl, by decide, by decide⟩
  | 5, _ => exact ⟨_, _, rfl, by decide, by decide⟩
theorem headOK_sign : ∀ i, i < 18 → HeadOK (signs.getD i []) := by
  intro i hi
  have h : ∀ j, j < 18 → (signs.getD j []).head?.isSome = true ∧ ∀ c, (signs.getD j []).head? = some c → ¬ c.toNat = 35 ∧ ¬ blankB c.toNat = true := by
    intro j hj
    have h1 : ∀ x ∈ signs, x.head?.isSome = true ∧ ∀ c, x.head? = some c → ¬ c.toNat = 35 ∧ ¬ blankB c.toNat = true := by
      intro x hx
      simp only [signs, List.mem_cons, List.not_mem_nil, or_false] at hx
      rcases hx with rfl | rfl | rfl | rfl | rfl | rfl | rfl | rfl | rfl | rfl | rfl | rfl | rfl | rfl | rfl | rfl | rfl | rfl <;> exact ⟨rfl, fun c hc => by cases hc; exact ⟨by decide, by decide⟩⟩
    have hm : signs.getD j [] ∈ signs := by
      rw [List.getD_eq_getElem?_getD, List.getElem?_eq_getElem (show j < signs.length from hj)]
      exact List.getElem_mem _
    exact h1 _ hm
  obtain ⟨h1, h2⟩ := h i hi
  cases hx : signs.getD i [] with
  | nil => rw [hx] at h1; cases h1
  | cons c r => rw [hx] at h2; exact ⟨c, r, rfl, h2 c rfl⟩
theorem headOK_dig (n : Nat) : HeadOK (digT n) := by
  unfold digT
  by_cases h : n = 0
  · rw [if_pos h]; exact ⟨48, [], rfl, by decide, by decide⟩
  · rw [if_neg h]
    obtain ⟨c, r, hc, hd⟩ := digs_head n h
    exact ⟨c, r, hc, by unfold digB at hd; simp at hd; omega, by unfold digB at hd; unfold blankB; simp at *; omega⟩
theorem headOK_pc (K u : Nat) : HeadOK (pcT K u) := by
  match K with
  | 0 => exact headOK_name _ (by omega)
  | 1 => exact headOK_var _ (by omega)
  | 2 => exact headOK_dig _
  | 3 => exact ⟨34, _, rfl, by decide, by decide⟩
  | K + 4 => exact headOK_sign _ (by omega)
theorem skip_head {x : Bytes} (h : HeadOK x) (r : Bytes) : skipM false (x ++ r) = 0 := by
  obtain ⟨c, l, rfl, h1, h2⟩ := h
  rw [List.cons_append, skipM, if_neg h1, if_neg h2]
theorem gap_skip (r : Bytes) : ∀ i, i < 6 → skipM false (gapT.getD i [] ++ r) = (gapT.getD i []).length + skipM false r := by
  intro i hi
  match i, hi with
  | 0, _ => simp [gapT, skipM, blankB]
  | 1, _ => simp [gapT, skipM, blankB]
  | 2, _ => simp [gapT, skipM, blankB]; omega
  | 3, _ => simp [gapT, skipM, blankB]; omega
  | 4, _ => simp [gapT, skipM, blankB]; omega
  | 5, _ => simp [gapT, skipM, blankB]; omega
theorem gap_head : ∀ i, i < 6 → ∃ g r, gapT.getD i [] = g :: r ∧ blankB g.toNat = true := by
  intro i hi
  match i, hi with
  | 0, _ => exact ⟨_, _, rfl, by decide⟩
  | 1, _ => exact ⟨_, _, rfl, by decide⟩
  | 2, _ => exact ⟨_, _, rfl, by decide⟩
  | 3, _ => exact ⟨_, _, rfl, by decide⟩
  | 4, _ => exact ⟨_, _, rfl, by decide⟩
  | 5, _ => exact ⟨_, _, rfl, by decide⟩
theorem end_skip : skipM false endT = endT.length := by decide
/-- A piece: kind, number and gap, each as it is taken. -/
structure Pc where
  K : Nat
  u : Nat
  g : Nat
  hu : u < 18446744073709551616
  hg : g < 6
def Pc.txt (x : Pc) : Bytes := pcT x.K x.u
def Pc.gap (x : Pc) : Bytes := gapT.getD x.g []
def Pc.tok (x : Pc) (p : Nat) : Tk := (pcK x.K x.u).up p
def enc : List Pc → Bytes
  | [] => []
  | x :: l => x.txt ++ x.gap ++ enc l
def toks : Nat → List Pc → List Tk
  | _, [] => []
  | p, x :: l => x.tok p :: toks (p + x.txt.length + x.gap.length) l
theorem enc_snoc (l : List Pc) (x : Pc) : enc (l ++ [x]) = enc l ++ x.txt ++ x.gap := by
  induction l with
  | nil => simp [enc]
  | cons y l ih => rw [List.cons_append, enc, enc, ih]; simp
theorem toks_snoc (x : Pc) : ∀ (l : List Pc) (p : Nat), toks p (l ++ [x]) = toks p l ++ [x.tok (p + (enc l).length)]
  | [], p => by simp [toks, enc]
  | y :: l, p => by
    rw [List.cons_append, toks, toks, toks_snoc x l, enc, List.cons_append, List.length_append, List.length_append]
    congr 4
    omega
theorem toks_len : ∀ (l : List Pc) (p : Nat), (toks p l).length = l.length
  | [], _ => rfl
  | x :: l, p => by rw [toks, List.length_cons, List.length_cons, toks_len l]
theorem Pc.next (x : Pc) (p : Nat) : nextM x.txt p = .ok (x.tok p) (p + x.txt.length) := by
  have h := next_up x.txt 0 p
  rw [show nextM x.txt 0 = _ from pc_next x.K x.u x.hu, Nat.zero_add] at h
  rw [h]
  show Nx.ok _ _ = _
  rw [show (pcT x.K x.u).length + p = p + x.txt.length from Nat.add_comm _ _]; rfl
theorem all_enc {tail : Bytes} (ht : skipM false tail = tail.length) : ∀ (l : List Pc) (a : Bytes), allP (a ++ (enc l ++ tail)) (a.length + skipM false (enc l ++ tail)) = .ok (toks a.length l ++ [⟨0, ⟨#[]⟩, 0, ((a ++ (enc l ++ tail)).length : Nat)⟩])
  | [], a => by
    rw [enc, List.nil_append, ht, allP_end (by rw [List.length_append]; omega)]
    rfl
  | x :: l, a => by
    obtain ⟨g, r, hg, hb⟩ := gap_head x.g x.hg
    have hgap : x.gap = g :: r := hg
    have e1 : enc (x :: l) ++ tail = x.txt ++ (x.gap ++ (enc l ++ tail)) := by rw [enc]; simp
    have hs : skipM false (enc (x :: l) ++ tail) = 0 := by rw [e1]; exact skip_head (headOK_pc _ _) _
    have hl : 0 < x.txt.length := by obtain ⟨c, q, h, _⟩ := headOK_pc x.K x.u; rw [show x.txt = c :: q from h]; simp
    have hd : (a ++ (enc (x :: l) ++ tail)).drop a.length = x.txt ++ g :: (r ++ (enc l ++ tail)) := by rw [List.drop_left, e1, hgap]; rfl
    have hn : nextM ((a ++ (enc (x :: l) ++ tail)).drop a.length) a.length = .ok (x.tok a.length) (a.length + x.txt.length) := by rw [hd]; exact next_stop hb _ (x.next _)
    have e2 : a ++ (enc (x :: l) ++ tail) = (a ++ x.txt ++ x.gap) ++ (enc l ++ tail) := by rw [e1]; simp
    have e3 : (a ++ x.txt ++ x.gap).length = a.length + x.txt.length + x.gap.length := by simp; omega
    have hd2 : (a ++ (enc (x :: l) ++ tail)).drop (a.length + x.txt.length) = x.gap ++ (enc l ++ tail) := by
      rw [e1, ← List.append_assoc, show a.length + x.txt.length = (a ++ x.txt).length by simp, List.drop_left]
    have ih := all_enc ht l (a ++ x.txt ++ x.gap)
    rw [hs, Nat.add_zero, allP_ok (by rw [e1]; simp; omega) hn, hd2, show skipM false (x.gap ++ (enc l ++ tail)) = x.gap.length + skipM false (enc l ++ tail) from gap_skip _ _ x.hg, e2]
    rw [e3] at ih
    rw [show a.length + x.txt.length + (x.gap.length + skipM false (enc l ++ tail)) = a.length + x.txt.length + x.gap.length + skipM false (enc l ++ tail) by omega, ih]
    rfl
/-- All tokens of pieces with gaps. -/
theorem allM_enc {tail : Bytes} (ht : skipM false tail = tail.length) {g : Nat} (hg : g < 6) (l : List Pc) : allM (gapT.getD g [] ++ (enc l ++ tail)) = .ok (toks (gapT.getD g []).length l ++ [⟨0, ⟨#[]⟩, 0, ((gapT.getD g [] ++ (enc l ++ tail)).length : Nat)⟩]) := by
  rw [allM_eq, gap_skip _ _ hg, all_enc ht]
theorem pc_len (x : Pc) : x.txt.length ≤ 20 ∧ x.gap.length ≤ 8 := by
  constructor
  · show (pcT x.K x.u).length ≤ 20
    match x.K with
    | 0 => have : ∀ i, i < 6 → (nameT.getD i []).length ≤ 20 := by decide
           exact this _ (by omega)
    | 1 => have : ∀ i, i < 6 → (varT.getD i []).length ≤ 20 := by decide
           exact this _ (by omega)
    | 2 =>
      show (digT (numOf x.u)).length ≤ 20
      unfold digT
      split
      · simp
      · exact digs_len _ 20 (by have := numOf_le x.hu; omega)
    | 3 => have : ∀ i, i < 6 → (quoteT (strT.getD i [])).length ≤ 20 := by decide
           exact this _ (by omega)
    | K + 4 => have : ∀ i, i < 18 → (signs.getD i []).length ≤ 20 := by decide
               exact this _ (by omega)
  · show (gapT.getD x.g []).length ≤ 8
    have : ∀ i, i < 6 → (gapT.getD i []).length ≤ 8 := by decide
    exact this _ x.hg
theorem enc_len (l : List Pc) : (enc l).length ≤ 28 * l.length := by
  induction l with
  | nil => simp [enc]
  | cons x l ih => have := pc_len x; rw [enc, List.length_append, List.length_append, List.length_cons]; omega
end Go.Proofs.YtecijhaclbbccaaDoor
