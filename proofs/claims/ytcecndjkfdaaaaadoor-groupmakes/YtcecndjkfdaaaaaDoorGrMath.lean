/- Mathematics of aggregation: what is made of numbers, for each key. -/
import Derived.Test.YtcecndjkfdaaaaaDoorIxMath
import Derived.Test.YtcecndjkfdaaaaaDoorArSumO
namespace Go.Proofs.YtcecndjkfdaaaaaDoor
set_option linter.unusedVariables false
set_option linter.unusedSimpArgs false

/-- The least, the greatest of some numbers, one by one. -/
def loF (l : List Int) (m : Int) : Int := l.foldl (fun m x => if x < m then x else m) m
def hiF (l : List Int) (m : Int) : Int := l.foldl (fun m x => if m < x then x else m) m
def loL (l : List Int) : Int := loF l (l[0]?.getD 0)
def hiL (l : List Int) : Int := hiF l (l[0]?.getD 0)
theorem loF_take {l : List Int} {k : Nat} (m : Int) (h : k < l.length) : loF (l.take (k + 1)) m = if l[k]?.getD 0 < loF (l.take k) m then l[k]?.getD 0 else loF (l.take k) m := by
  unfold loF
  rw [List.take_succ_eq_append_getElem h, List.foldl_append, List.getElem?_eq_getElem h]; rfl
theorem hiF_take {l : List Int} {k : Nat} (m : Int) (h : k < l.length) : hiF (l.take (k + 1)) m = if hiF (l.take k) m < l[k]?.getD 0 then l[k]?.getD 0 else hiF (l.take k) m := by
  unfold hiF
  rw [List.take_succ_eq_append_getElem h, List.foldl_append, List.getElem?_eq_getElem h]; rfl
theorem loF_one {l : List Int} (h : 0 < l.length) : loF (l.take 1) (l[0]?.getD 0) = l[0]?.getD 0 := by
  have := loF_take (l[0]?.getD 0) h
  rw [Nat.zero_add] at this
  rw [this]; simp [loF]
theorem hiF_one {l : List Int} (h : 0 < l.length) : hiF (l.take 1) (l[0]?.getD 0) = l[0]?.getD 0 := by
  have := hiF_take (l[0]?.getD 0) h
  rw [Nat.zero_add] at this
  rw [this]; simp [hiF]
/-- What is made of numbers. -/
def mkOf (a : Int) (l : List Int) : Option Int :=
  if l.length = 0 then none else if a = 1 then some l.length else if a = 2 then (if sumOk l = true then some (sumVal l) else none) else if a = 3 then some (loL l) else if a = 4 then some (hiL l) else none
def okOf (o : Option Int) : Bool := o.isSome
def vOf (o : Option Int) : Int := o.getD 0
theorem mkOf_nil (a : Int) : mkOf a [] = none := by simp [mkOf]
theorem mkOf_1 {l : List Int} (h : 0 < l.length) : mkOf 1 l = some (l.length : Int) := by unfold mkOf; rw [if_neg (by omega), if_pos rfl]
theorem mkOf_2 {l : List Int} (h : 0 < l.length) : okOf (mkOf 2 l) = sumOk l ∧ vOf (mkOf 2 l) = sumVal l := by
  unfold mkOf
  rw [if_neg (by omega), if_neg (by decide), if_pos rfl]
  by_cases e : sumOk l = true
  · rw [if_pos e, e]; exact ⟨rfl, rfl⟩
  · rw [if_neg e]
    have e2 : sumOk l = false := by simpa using e
    rw [e2]
    refine ⟨rfl, ?_⟩
    unfold sumVal sumOk at *
    rw [if_neg e]; rfl
theorem mkOf_3 {l : List Int} (h : 0 < l.length) : mkOf 3 l = some (loL l) := by unfold mkOf; rw [if_neg (by omega), if_neg (by decide), if_neg (by decide), if_pos rfl]
theorem mkOf_4 {l : List Int} (h : 0 < l.length) : mkOf 4 l = some (hiL l) := by unfold mkOf; rw [if_neg (by omega), if_neg (by decide), if_neg (by decide), if_neg (by decide), if_pos rfl]
theorem mkOf_no {a : Int} {l : List Int} (h : a < 1 ∨ 4 < a) : mkOf a l = none := by
  unfold mkOf
  rw [if_neg (show ¬ a = 1 by omega), if_neg (show ¬ a = 2 by omega), if_neg (show ¬ a = 3 by omega), if_neg (show ¬ a = 4 by omega)]
  split <;> rfl
theorem ok_some {o : Option Int} (h : okOf o = true) : o = some (vOf o) := by cases o with | none => cases h | some x => rfl
theorem ok_none {o : Option Int} (h : okOf o = false) : o = none ∧ vOf o = 0 := by cases o with | none => exact ⟨rfl, rfl⟩ | some x => cases h
/-- The numbers of a key. -/
def listOf (kys : List (List Int)) (el : List Int) (κ : List Int) : List Int := (rowsOf kys κ).map fun j => at0 el j
def listTo (kys : List (List Int)) (el : List Int) (κ : List Int) (m : Nat) : List Int := (rowsTo kys κ m).map fun j => at0 el j
/-- The rows that are made, of the first m rows. -/
def madeTo (kys : List (List Int)) (el : List Int) (a : Int) : Nat → Option (List (List Int))
  | 0 => some []
  | m + 1 => if kyAt kys m ∈ kys.take m then madeTo kys el a m else
    match madeTo kys el a m, mkOf a (listOf kys el (kyAt kys m)) with
    | some L, some v => some (L ++ [kyAt kys m ++ [v]])
    | _, _ => none
theorem made_skip {kys : List (List Int)} {el : List Int} {a : Int} {m : Nat} (h : kyAt kys m ∈ kys.take m) : madeTo kys el a (m + 1) = madeTo kys el a m := by rw [madeTo, if_pos h]
theorem made_step {kys : List (List Int)} {el : List Int} {a : Int} {m : Nat} {L : List (List Int)} {v : Int} (h : ¬ kyAt kys m ∈ kys.take m) (hL : madeTo kys el a m = some L) (hv : mkOf a (listOf kys el (kyAt kys m)) = some v) : madeTo kys el a (m + 1) = some (L ++ [kyAt kys m ++ [v]]) := by
  rw [madeTo, if_neg h, hL, hv]
theorem made_stop {kys : List (List Int)} {el : List Int} {a : Int} {m : Nat} (h : ¬ kyAt kys m ∈ kys.take m) (hv : mkOf a (listOf kys el (kyAt kys m)) = none) : madeTo kys el a (m + 1) = none := by
  rw [madeTo, if_neg h, hv]
  cases madeTo kys el a m <;> rfl
theorem made_none {kys : List (List Int)} {el : List Int} {a : Int} {m n : Nat} (h : madeTo kys el a m = none) (hmn : m ≤ n) : madeTo kys el a n = none := by
  induction n with
  | zero => obtain rfl : m = 0 := by omega
            exact h
  | succ n ih =>
    by_cases e : m = n + 1
    · rw [← e]; exact h
    · have := ih (by omega)
      rw [madeTo, this]
      split <;> rfl
theorem madeR_len {kys : List (List Int)} {el : List Int} {a : Int} {m : Nat} {L : List (List Int)} (h : madeTo kys el a m = some L) : L.length ≤ m := by
  induction m generalizing L with
  | zero => rw [madeTo] at h; cases h; simp
  | succ m ih =>
    rw [madeTo] at h
    by_cases e : kyAt kys m ∈ kys.take m
    · rw [if_pos e] at h; have := ih h; omega
    · rw [if_neg e] at h
      cases h1 : madeTo kys el a m with
      | none => rw [h1] at h; cases h
      | some L' =>
        cases h2 : mkOf a (listOf kys el (kyAt kys m)) with
        | none => rw [h1, h2] at h; cases h
        | some v => rw [h1, h2] at h; cases h; have := ih h1; simp; omega
theorem madeR_rows {kys : List (List Int)} {el : List Int} {a : Int} {m : Nat} {L : List (List Int)} (hm : m ≤ kys.length) (h : madeTo kys el a m = some L) : ∀ r ∈ L, ∃ κ ∈ kys, ∃ v, r = κ ++ [v] := by
  induction m generalizing L with
  | zero => rw [madeTo] at h; cases h; intro r hr; cases hr
  | succ m ih =>
    rw [madeTo] at h
    by_cases e : kyAt kys m ∈ kys.take m
    · rw [if_pos e] at h; exact ih (by omega) h
    · rw [if_neg e] at h
      cases h1 : madeTo kys el a m with
      | none => rw [h1] at h; cases h
      | some L' =>
        cases h2 : mkOf a (listOf kys el (kyAt kys m)) with
        | none => rw [h1, h2] at h; cases h
        | some v =>
          rw [h1, h2] at h; cases h
          intro r hr
          rcases List.mem_append.1 hr with hr | hr
          · exact ih (by omega) h1 r hr
          · refine ⟨kyAt kys m, ?_, v, by simpa using hr⟩
            unfold kyAt; rw [List.getElem?_eq_getElem (by omega)]; exact List.getElem_mem _
/-- Two tables of numbers of which the same is made. -/
theorem made_congr {kys : List (List Int)} {el el' : List Int} {a : Int} (h : ∀ κ, mkOf a (listOf kys el κ) = mkOf a (listOf kys el' κ)) (m : Nat) : madeTo kys el a m = madeTo kys el' a m := by
  induction m with
  | zero => rfl
  | succ m ih => rw [madeTo, madeTo, ih, h]
theorem made_count {kys : List (List Int)} (el el' : List Int) (m : Nat) : madeTo kys el 1 m = madeTo kys el' 1 m := made_congr (fun κ => by
  unfold mkOf listOf
  simp only [List.length_map, if_true]) m
end Go.Proofs.YtcecndjkfdaaaaaDoor
