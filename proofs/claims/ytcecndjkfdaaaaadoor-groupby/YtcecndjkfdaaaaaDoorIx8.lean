/- An index as a whole: Probe, Len; the law's own probe, and its head. -/
import Derived.Test.YtcecndjkfdaaaaaDoorIx7
namespace Go.Proofs.YtcecndjkfdaaaaaDoor
open Go.RowKit
set_option linter.unusedVariables false
set_option linter.unusedSimpArgs false

theorem Ix.below {w w' : World} {g : Nat} {kys : List (List Int)} (h : Ix w g kys) (hb : Below w.heap.size w w') : Ix w' g kys := by
  obtain ⟨K, sl, nx, cnt, M, n, h1, h2⟩ := h
  exact ⟨K, sl, nx, cnt, M, n, h1.below hb, h2⟩
theorem Ix.belowB {w w' : World} {B g : Nat} {kys : List (List Int)} (h : Ix w g kys) (hB : w.heap.size = B) (hb : Below B w w') : Ix w' g kys := by subst hB; exact h.below hb
theorem Ix.len {w : World} {g : Nat} {kys : List (List Int)} (h : Ix w g kys) : kys.length ≤ 1000 := by
  obtain ⟨K, sl, nx, cnt, M, n, h1, h2, h3, h4, h5, h6, h7⟩ := h
  rw [← h5, keysC_len]; exact h7
theorem ix_probe {w : World} {g : Nat} {kys : List (List Int)} (h : Ix w g kys) (ka : Option Addr) (kc : Nat) (κ : List Int) (hκ : Row w ka κ) (hκl : κ.length ≤ 1000000) :
    Calls Tryd.prog 32 #[.pointer (some ⟨g, 0, none⟩), .slice ka κ.length kc] w (RowRet w (ints (rowsOf kys κ))) := by
  obtain ⟨K, sl, nx, cnt, M, n, h1, h2, h3, h4, h5, h6, h7⟩ := h
  have := probe_calls h1 h2 h3 h4 ka kc κ hκ hκl (by omega) (by omega)
  rw [h5] at this; exact this

theorem ix_len {w : World} {g : Nat} {kys : List (List Int)} (h : Ix w g kys) : Calls Tryd.prog 30 #[.pointer (some ⟨g, 0, none⟩)] w fun e w' => e = .returned (.int .i64 (dst kys)) ∧ w = w' := by
  obtain ⟨K, sl, nx, cnt, M, n, ⟨ca, cc, sa, sc, na, nc, hg, _⟩, h2, h3, h4, h5, h6, h7⟩ := h
  have hd := h3.diff
  rw [h5, List.drop_zero] at hd
  have c3 := (ixCells hg).2.2.2
  rw [hd] at c3
  clear hg h2 h3 h4 h5 hd
  go_enter Tryd.func30, Tryd.ntmps30
  go_wp2_with fail
  go_ret
  exact ⟨rfl, rfl⟩

theorem rowsTo_more {kys : List (List Int)} {κ : List Int} {i : Nat} (hk : kyAt kys i = κ) : ∀ m, i < m → ∃ t, rowsTo kys κ m = rowsTo kys κ i ++ i :: t := by
  intro m
  induction m with
  | zero => intro h; omega
  | succ m ih =>
    intro h
    by_cases e : i = m
    · subst e; exact ⟨[], rowsTo_hit hk⟩
    · obtain ⟨t, ht⟩ := ih (by omega)
      by_cases hm : kyAt kys m = κ
      · exact ⟨t ++ [m], by rw [rowsTo_hit hm, ht]; simp⟩
      · exact ⟨t, by rw [rowsTo_skip (m := m) (by omega) (fun j h1 h2 => (show j = m by omega) ▸ hm), ht]⟩
theorem rowsOf_at {kys : List (List Int)} {κ : List Int} {i : Nat} (hi : i < kys.length) (hk : kyAt kys i = κ) : (rowsTo kys κ i).length < (ints (rowsOf kys κ)).length ∧ (ints (rowsOf kys κ))[(rowsTo kys κ i).length]?.getD 0 = (i : Int) := by
  obtain ⟨t, ht⟩ := rowsTo_more hk _ hi
  rw [ints_len, rowsOf, ht]
  simp [ints]
theorem rowsTo_step_no {kys : List (List Int)} {κ : List Int} {i : Nat} (hk : ¬ kyAt kys i = κ) : rowsTo kys κ (i + 1) = rowsTo kys κ i :=
  rowsTo_skip (by omega) (fun j h1 h2 => (show j = i by omega) ▸ hk)
theorem kyAt_map {rs : List (List Int)} {keys : List Int} {i : Nat} (h : i < rs.length) : kyAt (rs.map fun r => keyL r keys) i = keyL (rowAt rs i) keys := by
  simp [kyAt, rowAt, h]

end Go.Proofs.YtcecndjkfdaaaaaDoor
