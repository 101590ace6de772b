/- The statement InternApart, walked. -/
import Derived.Test.YtplckcnmpnnkgaaIn8
namespace Go.Proofs.Ytplckcnmpnnkgaa
open Go.RowKit Go.Maps
set_option linter.unusedVariables false
set_option linter.unusedSimpArgs false

/-- append of a row of texts, nil or not, onto a row of the call's own; the operation may be guarded. -/
theorem append_strs (w : World) {ops : Array Oper} {rest : List Oper} {o : Oper} {a : Act} {Q : Exit → Act → World → Prop} (hw : Region.wanted o (yielded ops a.tmps) = true) (s x : Operand)
    (ho : o.op = .call { callee := .builtin .append, args := #[s, x], argTypes := #[22, 22] }) (B : Nat) (v : Value) (ts : List ByteArray) (hs : a.eval s = v) (hown : w.ownsRow B 9 1 v ts.length (ts.map Value.string))
    (A : Option Addr) (c : Nat) (us : List ByteArray) (hx : a.eval x = .slice A us.length c) (hr : SRow w A us) (hc : A = none → c = 0) (hl : ts.length + us.length ≤ 100000) (hB : B ≤ w.heap.size)
    (h : ∀ v' w', w'.ownsRow B 9 1 v' (ts ++ us).length ((ts ++ us).map Value.string) → w.grownBy w' v.ownBlock → wpList Try.prog ops Q rest (a.put o.dst v') w') : wpList Try.prog ops Q (o :: rest) a w := by
  obtain ⟨i0, hi, hz0, hz1, hz2⟩ := info_parts info9
  refine BigFrame.wpList_want hw fun K hK => ?_
  cases A with
  | none =>
    obtain rfl : us = [] := by
      rcases hr with h | ⟨b, off, h, _⟩
      · exact h
      · cases h
    rw [hc rfl] at hx
    have hrun := run_append_owned_none (P := Try.prog) w B 22 o.type 9 i0 1 Try.underlying22 hi v ts.length _ hown
    have hx' : a.eval x = .slice none 0 0 := hx
    unfold Oper.wp execOp
    simp only [ho, resolve, invoke, builtin, Sem.run_bind, Sem.run_pure, Result.andThen_ok, List.map_toArray, List.map_cons, List.map_nil, hs, hx', hrun]
    exact hK _ _ (h v w (by simpa using hown) ⟨rfl, rfl, rfl, Nat.le_refl _, fun _ _ _ => rfl⟩)
  | some ad =>
    refine wp_append_own (P := Try.prog) w s x 22 ho B 9 i0 (.string ⟨#[]⟩) 1 16 Try.underlying22 hi hz0 hz1 hz2 rfl (by decide) v ts.length _ hs hown ad us.length c (us.map Value.string) hx (by simp) ?_ ?_ (by unfold maxLen; omega) (by omega) hB ?_
    · intro j u hj
      rcases hr with rfl | ⟨b, off, e, hb, hcell⟩
      · simp at hj
      · cases e
        have hjl : j < us.length := by
          rcases Nat.lt_or_ge j us.length with h1 | h1
          · exact h1
          · simp [List.getElem?_eq_none h1] at hj
        rw [show (⟨b, off, none⟩ : Addr).add j = ⟨b, off + j, none⟩ by simp only [Addr.add]; split <;> simp_all, hcell j hjl]
        simp [List.getElem?_eq_getElem hjl] at hj
        rw [getD_at hjl, hj]
    · intro u hu; obtain ⟨t, _, rfl⟩ := List.mem_map.1 hu; rfl
    · intro v' w' h2 h3 _
      exact hK _ _ (h v' w' (by rw [List.length_append, List.map_append]; exact h2) h3)

/-- What more texts make of the table. -/
def more (U ms : List ByteArray) : List ByteArray := ms.foldl adds U
theorem more_take {U ms : List ByteArray} {k : Nat} (h : k < ms.length) : more U (ms.take (k + 1)) = adds (more U (ms.take k)) (ms.getD k ByteArray.empty) := by
  unfold more; rw [take_snoc h, List.foldl_append]; rfl
theorem more_len (U ms : List ByteArray) : (more U ms).length ≤ U.length + ms.length := foldl_len ms U
theorem uniq_append (l r : List ByteArray) : uniq (l ++ r) = more (uniq l) r := by unfold uniq more; rw [List.foldl_append]
theorem more_at {U ms : List ByteArray} {i : Nat} (h : i < U.length) : i < (more U ms).length ∧ (more U ms).getD i ByteArray.empty = U.getD i ByteArray.empty := by
  obtain ⟨r, hr⟩ := foldl_pre ms U
  unfold more
  rw [hr, List.length_append]
  refine ⟨by omega, ?_⟩
  rw [List.getD_eq_getElem?_getD, List.getD_eq_getElem?_getD, List.getElem?_append_left h]
end Go.Proofs.Ytplckcnmpnnkgaa
