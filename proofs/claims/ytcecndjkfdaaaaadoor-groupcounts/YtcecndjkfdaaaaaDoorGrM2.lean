/- Mathematics of counts: all counts together are how many rows there are. -/
import Derived.Test.YtcecndjkfdaaaaaDoorGr8
import Derived.Test.YtcecndjkfdaaaaaDoorRelP
namespace Go.Proofs.YtcecndjkfdaaaaaDoor
open Go.RowKit
set_option linter.unusedVariables false
set_option linter.unusedSimpArgs false

theorem width4 (x : Int) : ∃ wd : Nat, 1 ≤ wd ∧ wd ≤ 4 ∧ wrap64 (1 + wrap64 ((IntKind.u64.wrap x).tmod 4)) = (wd : Int) := by
  have h1 : 0 ≤ IntKind.u64.wrap x := by simp [IntKind.wrap, IntKind.bits, IntKind.signed]; omega
  have h2 : (IntKind.u64.wrap x).tmod 4 = IntKind.u64.wrap x % 4 := Int.tmod_eq_emod_of_nonneg h1
  rw [h2]
  obtain ⟨y, hy⟩ : ∃ y, IntKind.u64.wrap x % 4 = y := ⟨_, rfl⟩
  have h3 : 0 ≤ y ∧ y < 4 := by omega
  rw [hy]
  exact ⟨y.toNat + 1, by omega, by omega, by unfold wrap64; omega⟩
theorem key4 (x : Int) (wd : Nat) (h1 : 1 ≤ wd) (h2 : wd ≤ 4) : ∃ kk : Nat, kk < wd ∧ wrap64 ((IntKind.u64.wrap x).tmod (IntKind.u64.wrap (wd : Int))) = (kk : Int) := by
  have h3 : 0 ≤ IntKind.u64.wrap x := by simp [IntKind.wrap, IntKind.bits, IntKind.signed]; omega
  have h4 : IntKind.u64.wrap (wd : Int) = wd := by rw [IntKind.wrap_u64]; omega
  rw [h4, Int.tmod_eq_emod_of_nonneg h3]
  obtain ⟨y, hy⟩ : ∃ y, IntKind.u64.wrap x % (wd : Int) = y := ⟨_, rfl⟩
  have h5 : 0 ≤ y := by rw [← hy]; exact Int.emod_nonneg _ (by omega)
  have h6 : y < wd := by rw [← hy]; exact Int.emod_lt_of_pos _ (by omega)
  rw [hy]
  exact ⟨y.toNat, by omega, by unfold wrap64; omega⟩
/-- The counts. -/
def cntTo (kys : List (List Int)) : Nat → List (List Int)
  | 0 => []
  | m + 1 => if kyAt kys m ∈ kys.take m then cntTo kys m else cntTo kys m ++ [kyAt kys m ++ [((rowsOf kys (kyAt kys m)).length : Int)]]
theorem rowsOf_pos {kys : List (List Int)} {m : Nat} (h : m < kys.length) : 0 < (rowsOf kys (kyAt kys m)).length := List.length_pos_of_mem (mem_rowsTo.2 ⟨h, rfl⟩)
theorem made_cnt (kys : List (List Int)) (el : List Int) : ∀ m, m ≤ kys.length → madeTo kys el 1 m = some (cntTo kys m) := by
  intro m
  induction m with
  | zero => intro _; rfl
  | succ m ih =>
    intro hm
    by_cases e : kyAt kys m ∈ kys.take m
    · rw [made_skip e, cntTo, if_pos e]; exact ih (by omega)
    · have h1 : (listOf kys el (kyAt kys m)).length = (rowsOf kys (kyAt kys m)).length := by simp [listOf]
      have h2 := mkOf_1 (l := listOf kys el (kyAt kys m)) (by rw [h1]; exact rowsOf_pos (by omega))
      rw [made_step e (ih (by omega)) h2, cntTo, if_neg e, h1]
theorem cnt_rows (kys : List (List Int)) : ∀ m, m ≤ kys.length → ∀ r ∈ cntTo kys m, ∃ κ ∈ kys.take m, ∃ v : Int, 1 ≤ v ∧ r = κ ++ [v] := by
  intro m
  induction m with
  | zero => intro _ r hr; cases hr
  | succ m ih =>
    intro hm r hr
    rw [cntTo] at hr
    have sub : ∀ κ ∈ kys.take m, κ ∈ kys.take (m + 1) := fun κ h => by rw [take_kys (by omega)]; exact List.mem_append_left _ h
    by_cases e : kyAt kys m ∈ kys.take m
    · rw [if_pos e] at hr
      obtain ⟨κ, h1, v, h2, h3⟩ := ih (by omega) r hr
      exact ⟨κ, sub κ h1, v, h2, h3⟩
    · rw [if_neg e] at hr
      rcases List.mem_append.1 hr with h | h
      · obtain ⟨κ, h1, v, h2, h3⟩ := ih (by omega) r h
        exact ⟨κ, sub κ h1, v, h2, h3⟩
      · have hp := rowsOf_pos (kys := kys) (m := m) (by omega)
        exact ⟨kyAt kys m, by rw [take_kys (by omega)]; simp, ((rowsOf kys (kyAt kys m)).length : Int), by omega, by simpa using h⟩
theorem cnt_apart (kys : List (List Int)) : ∀ m, m ≤ kys.length → (cntTo kys m).Pairwise (· ≠ ·) := by
  intro m
  induction m with
  | zero => intro _; exact List.Pairwise.nil
  | succ m ih =>
    intro hm
    rw [cntTo]
    by_cases e : kyAt kys m ∈ kys.take m
    · rw [if_pos e]; exact ih (by omega)
    · rw [if_neg e, List.pairwise_append]
      refine ⟨ih (by omega), List.pairwise_singleton _ _, fun x hx y hy exy => ?_⟩
      obtain ⟨κ, h1, v, _, h3⟩ := cnt_rows kys m (by omega) x hx
      have hy' : y = kyAt kys m ++ [((rowsOf kys (kyAt kys m)).length : Int)] := by simpa using hy
      rw [h3, hy'] at exy
      have := (List.append_inj' exy rfl).1
      rw [this] at h1
      exact e h1
theorem countP_or {l : List Nat} (p q : Nat → Bool) (hd : ∀ x ∈ l, ¬ (p x = true ∧ q x = true)) : l.countP (fun x => p x || q x) = l.countP p + l.countP q := by
  induction l with
  | nil => rfl
  | cons x l ih =>
    have h1 := ih (fun y hy => hd y (List.mem_cons_of_mem _ hy))
    have h2 := hd x (List.mem_cons_self ..)
    rw [List.countP_cons, List.countP_cons, List.countP_cons, h1]
    cases hp : p x <;> cases hq : q x <;> simp_all <;> omega
def lastOf (r : List Int) : Int := r[r.length - 1]?.getD 0
theorem lastOf_app (κ : List Int) (v : Int) : lastOf (κ ++ [v]) = v := by simp [lastOf]
theorem cnt_sum (kys : List (List Int)) : ∀ m, m ≤ kys.length → ((cntTo kys m).map lastOf).sum = ((List.range kys.length).countP (fun j => decide (kyAt kys j ∈ kys.take m)) : Nat) := by
  intro m
  induction m with
  | zero => intro _; simp [cntTo]
  | succ m ih =>
    intro hm
    have ih' := ih (by omega)
    rw [cntTo]
    by_cases e : kyAt kys m ∈ kys.take m
    · rw [if_pos e, ih']
      congr 2
      funext j
      rw [take_kys (by omega)]
      simp
      intro h; rw [h]; exact e
    · rw [if_neg e, List.map_append, List.sum_append, ih']
      have h1 : ([kyAt kys m ++ [((rowsOf kys (kyAt kys m)).length : Int)]].map lastOf).sum = ((rowsOf kys (kyAt kys m)).length : Int) := by simp [lastOf_app]
      have h2 : (rowsOf kys (kyAt kys m)).length = (List.range kys.length).countP (fun j => decide (kyAt kys j = kyAt kys m)) := by rw [List.countP_eq_length_filter]; rfl
      have h3 := countP_or (l := List.range kys.length) (fun j => decide (kyAt kys j ∈ kys.take m)) (fun j => decide (kyAt kys j = kyAt kys m)) (fun x _ h => by
        simp only [decide_eq_true_eq] at h
        rw [h.2] at h; exact e h.1)
      have h4 : (List.range kys.length).countP (fun j => decide (kyAt kys j ∈ kys.take (m + 1))) = (List.range kys.length).countP (fun j => decide (kyAt kys j ∈ kys.take m) || decide (kyAt kys j = kyAt kys m)) := by
        congr 1
        funext j
        rw [take_kys (by omega)]
        simp
      rw [h1, h2, h4, h3]; omega
theorem perm_sum {l r : List (List Int)} (f : List Int → Int) (h : l.Perm r) : (l.map f).sum = (r.map f).sum := by
  induction h with
  | nil => rfl
  | cons x _ ih => simp [ih]
  | swap x y l => simp; omega
  | trans _ _ ih1 ih2 => exact ih1.trans ih2
theorem cnt_all (kys : List (List Int)) : ((cntTo kys kys.length).map lastOf).sum = (kys.length : Int) := by
  rw [cnt_sum kys _ (Nat.le_refl _), List.take_length]
  have : (List.range kys.length).countP (fun j => decide (kyAt kys j ∈ kys)) = (List.range kys.length).length := by
    rw [List.countP_eq_length]
    intro j hj
    have hj' : j < kys.length := by simpa using hj
    simp only [decide_eq_true_eq]
    unfold kyAt; rw [List.getElem?_eq_getElem hj']; exact List.getElem_mem _
  rw [this, List.length_range]
def sndOf (r : List Int) : Int := r[1]?.getD 0
/-- The relation of the counts by one place. -/
theorem cnt_rel {kys : List (List Int)} (hk : ∀ κ ∈ kys, κ.length = 1) : (∀ r ∈ relOf ((2 : Nat) : Int) (cntTo kys kys.length), r.length = 2 ∧ (1 : Int) ≤ sndOf r) ∧ ((relOf ((2 : Nat) : Int) (cntTo kys kys.length)).map sndOf).sum = (kys.length : Int) := by
  have rows := cnt_rows kys _ (Nat.le_refl _)
  rw [List.take_length] at rows
  have two : ∀ r ∈ cntTo kys kys.length, r.length = 2 ∧ (1 : Int) ≤ sndOf r ∧ lastOf r = sndOf r := fun r hr => by
    obtain ⟨κ, h1, v, h2, rfl⟩ := rows r hr
    have h3 := hk κ h1
    refine ⟨by simp [h3], ?_, ?_⟩
    · unfold sndOf; rw [List.getElem?_append_right (by omega)]; simp [h3]; exact h2
    · unfold sndOf; rw [lastOf_app, List.getElem?_append_right (by omega)]; simp [h3]
  refine ⟨fun r hr => ?_, ?_⟩
  · have := two r ((mem_rel _ _ _).1 hr).1
    exact ⟨this.1, this.2.1⟩
  · have hp := rel_perm 2 (cntTo kys kys.length) [] (fun r hr => (two r hr).1) (fun r _ h => by cases h) (cnt_apart kys _ (Nat.le_refl _))
    rw [List.append_nil] at hp
    have h1 := perm_sum (sndOf) hp
    refine h1.trans ?_
    rw [← cnt_all kys]
    congr 1
    exact List.map_congr_left (fun r hr => (two r hr).2.2.symm)
/-- Sums under way. -/
def psum (R : List (List Int)) (i : Nat) : Int := ((R.take i).map sndOf).sum
theorem psum_step {R : List (List Int)} {i : Nat} (h : i < R.length) : psum R (i + 1) = psum R i + sndOf (rowAt R i) := by
  unfold psum rowAt
  rw [List.take_succ_eq_append_getElem h, List.map_append, List.sum_append, List.getElem?_eq_getElem h]
  simp
theorem psum_bd {R : List (List Int)} (h : ∀ r ∈ R, (1 : Int) ≤ sndOf r) : ∀ i, 0 ≤ psum R i ∧ psum R i ≤ (R.map sndOf).sum := by
  induction R with
  | nil => intro i; simp [psum]
  | cons x R ih =>
    intro i
    have hx := h x (List.mem_cons_self ..)
    have ih' := ih (fun r hr => h r (List.mem_cons_of_mem _ hr))
    cases i with
    | zero => have := ih' R.length; simp [psum] at this ⊢; omega
    | succ i => have := ih' i; simp [psum] at this ⊢; omega
/-- Without places all rows have one key. -/
theorem cnt_bare (n : Nat) : ∀ m, 1 ≤ m → m ≤ n → cntTo (List.replicate n []) m = [[(n : Int)]] := by
  have hk : ∀ j, j < n → kyAt (List.replicate n ([] : List Int)) j = [] := fun j hj => by simp [kyAt, hj]
  intro m
  induction m with
  | zero => intro h; omega
  | succ m ih =>
    intro _ hm
    rw [cntTo, hk m (by omega)]
    by_cases e : m = 0
    · subst e
      rw [if_neg (by simp)]
      have : (rowsOf (List.replicate n ([] : List Int)) []).length = n := by
        unfold rowsOf rowsTo
        rw [List.filter_eq_self.2]
        · simp
        · intro j hj
          rw [List.length_replicate] at hj
          simp only [decide_eq_true_eq]
          exact hk j (by simpa using hj)
      rw [this]; rfl
    · rw [if_pos (by rw [List.take_replicate]; simp; omega)]
      exact ih (by omega) (by omega)
theorem keys_bare (rs : List (List Int)) : (rs.map fun r => keyL r []) = List.replicate rs.length [] := by
  rw [List.eq_replicate_iff]
  exact ⟨by simp, fun b hb => by obtain ⟨r, _, rfl⟩ := List.mem_map.1 hb; rfl⟩
end Go.Proofs.YtcecndjkfdaaaaaDoor
