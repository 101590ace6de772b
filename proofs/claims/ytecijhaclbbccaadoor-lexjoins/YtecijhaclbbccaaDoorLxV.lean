/- LexJoins, walked. -/
import Derived.Test.YtecijhaclbbccaaDoorLxU
import Derived.Test.YtecijhaclbbccaaDoorLxK
namespace Go.Proofs.YtecijhaclbbccaaDoor
open Go.RowKit
set_option linter.unusedVariables false
set_option linter.unusedSimpArgs false

theorem allM_ok (l : Bytes) : RsOK l.length 0 (allM l) := by
  rw [allM_eq]
  have h1 := skip_le false l
  have h2 := all_ok l _ (skipM false l) (Nat.le_refl _) h1
  cases hA : allP l (skipM false l) with
  | no a b => rw [hA] at h2; exact h2
  | ok L => rw [hA] at h2; exact rising_more h2 (Nat.zero_le _)
theorem tkAt_map {y : List Tk} {i d : Nat} (h : i < y.length) : tkAt (y.map (Tk.up d)) i = (tkAt y i).up d := by simp [tkAt, h]
theorem lexJoins_walk (a b : ByteArray) (w : World) (ht : SignTab w) (hg : ErrType w) : Calls Tryd.prog 7 #[.string a, .string b] w (TrueRet w) := by
  by_cases hl : 200 < a.size ∨ 200 < b.size
  · exact lexJoins_long a b w ht hl
  have ha : a.size ≤ 200 := by omega
  have hb : b.size ≤ 200 := by omega
  have oa := allM_ok (bs a)
  have ob := allM_ok (bs b)
  rw [bs_len] at oa ob
  cases hA : allM (bs a) with
  | no t p => exact lexJoins_no a b w ht ha hb hA
  | ok x =>
    rw [hA] at oa
    obtain ⟨y0, rfl, hJ⟩ := all_joined (b := bs b) hA
    rw [← bs_join, bs_len] at hJ
    cases hB : allM (bs b) with
    | no t p =>
      rw [hB] at hJ ob
      exact lexJoins_bad a b w ht hg ha hb (by have := ob.2; omega) hA hB hJ
    | ok y =>
      rw [hB] at hJ ob
      have hJ' : allM (bs (a ++ ⟨#[10]⟩ ++ b)) = .ok (y0 ++ y.map (Tk.up (a.size + 1))) := hJ
      obtain ⟨p1, _, _, p4⟩ := rising_at y 0 ob
      have q1 := rising_len y 0 ob
      have q2 := rising_len _ 0 oa
      refine lexJoins_ok a b w ht hg ha hb (by simp) p1 (by simp; omega) (by omega) (by omega) (fun i hi => ?_) (fun i hi => ?_) (fun i hi => ?_) hA hB hJ'
      · obtain ⟨_, _, _, u, v, _⟩ := p4 i hi
        exact ⟨v, by omega⟩
      · have : i < y0.length := by simp at hi; exact hi
        simp [tkAt, this, List.getElem?_append_left]
      · have : (y0 ++ [(⟨0, ⟨#[]⟩, 0, ((bs a).length : Nat)⟩ : Tk)]).length - 1 + i = y0.length + i := by simp
        rw [this, ← tkAt_map hi]
        simp [tkAt, List.getElem?_append_right]
end Go.Proofs.YtecijhaclbbccaaDoor
