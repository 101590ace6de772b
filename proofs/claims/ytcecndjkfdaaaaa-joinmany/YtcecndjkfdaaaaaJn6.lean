/- The sort of keyed rows, and byKey without its premise. -/
import Derived.Test.YtcecndjkfdaaaaaJn5
namespace Go.Proofs.Ytcecndjkfdaaaaa
open Go.RowKit Go.Shelf Go.Sort
set_option linter.unusedVariables false
set_option linter.unusedSimpArgs false

theorem sortK : SortHyp := by
  intro B b5 w v L hown hr hL hkl
  rcases hown.2 with ⟨rfl, h0⟩ | ⟨g, cap, cur, rfl, hb, hh, hn, hm, hcs, ht⟩
  · have hLn : L = [] := List.eq_nil_of_length_eq_zero h0
    subst hLn
    exact (Try.slices_SortFunc_none_f72 none 0 _ w).mono fun e w' ⟨he, hw⟩ => ⟨he, [], List.Perm.refl _, List.Pairwise.nil, by rw [hw]; exact hown, by rw [hw]; exact Keeps.refl _ _⟩
  · have hok : ∀ x ∈ L, (Row w x.1.1 x.1.2.1 ∧ x.1.2.1.length ≤ 1000000) ∧ ∀ p, x.1.1 = some p → p.block < w.heap.size ∧ p.block ≠ g := fun x hx => ⟨⟨(hr x hx).1.1, by have := hkl x hx; omega⟩, fun p hp => ⟨((hr x hx).2 p hp).1, fun e => ((hr x hx).2 p hp).2.1 (by simp [Value.ownBlock, e])⟩⟩
    obtain ⟨d, hd⟩ : ∃ d : Array (KA w g), d = (L.attach.map fun x => (⟨x.1, hok x.1 x.2⟩ : KA w g)).toArray := ⟨_, rfl⟩
    have hdm : d.toList.map (fun x => x.1) = L := by rw [hd]; simp only [List.map_map]; exact List.attach_map_subtype_val L
    have hds : d.size = L.length := by rw [hd]; simp
    have hkf := kit_flat d
    rw [hdm] at hkf
    have hsz : (Go.Sort.flatK encK 2 d).size = L.length * 2 := by rw [size_flatK, hds]
    have hH : HoldsK encK 2 w g 0 d := by
      intro j hj
      refine ⟨?_, by rw [Nat.zero_add]; exact hown.frozenAt j⟩
      rw [Nat.zero_add, hown.cellAt j (by omega), ← hkf, Array.getElem?_toList, Array.getElem?_eq_getElem hj, getElem!_pos _ j hj]
      rfl
    have eg : ∀ args w, (callFunc 73 args).run Try.prog w = .ok (.enter 73 args) w := enters_of Try.func73 (by kernel_rfl) rfl
    have C := Try.slices_SortFunc_f72 (encK (w0 := w) (g := g)) (fun _ => rfl) (fun x v hv => by simp [encK] at hv; rcases hv with rfl | rfl <;> rfl) cfK (cfK_swo w g) 73 #[] g 0 cap d w eg cmpLaysK hH (Array.getElem?_eq_some_iff.1 hh).1 (by omega)
    rw [hds] at C
    refine C.mono fun e w' ⟨he, d', n, os, hp, hs, hw⟩ => ?_
    have hd's : d'.size = L.length := by rw [hp.1, hds]
    have hpp : d'.toList.Perm d.toList := by
      have h1 := hp.2.2
      have e1 : d'.extract 0 L.length = d' := by rw [← hd's]; exact Array.extract_size
      have e2 : d.extract 0 L.length = d := by rw [← hds]; exact Array.extract_size
      rw [e1, e2] at h1; exact h1
    have hw2 : w' = grow (putRow id (Sort.ahead w n) g 0 (Go.Sort.flatK encK 2 d')) os := hw
    have hsz' : (Go.Sort.flatK encK 2 d').size = L.length * 2 := by rw [size_flatK, hd's]
    refine ⟨he, d'.toList.map (fun x => x.1), by rw [← hdm]; exact hpp.map _, ?_, ?_, ?_⟩
    · unfold AscK
      rw [List.pairwise_map, List.pairwise_iff_getElem]
      intro i j hi hj hij
      have h1 := hs i j (Nat.zero_le _) hij (by simp at hj; omega)
      rw [cfK_lt] at h1
      simp only [decide_eq_false_iff_not] at h1
      simp at hi hj
      rw [getElem!_pos d' i hi, getElem!_pos d' j hj] at h1
      have h2 := ltK_total (d'[i]).1.1.2.1 (d'[j]).1.1.2.1 (d'[i]).1.2 (d'[j]).1.2
      simp only [Array.getElem_toList]
      rcases h2 with (h2 | ⟨h2, h3⟩) | ⟨h2, h3⟩ | h2
      · exact .inl h2
      · exact .inr ⟨h2, Nat.le_of_lt h3⟩
      · exact .inr ⟨h2, Nat.le_of_eq h3⟩
      · exact absurd h2 h1
    · rw [hw2]
      refine ⟨by rw [flatK_len]; simp [hd's], .inr ⟨g, cap, _, rfl, hb, heap_sortedG (enc := id) _ hh, hn, hm, by simp [putCells, hcs], ?_⟩⟩
      have h3 := take_putCellsG (enc := id) cur (Go.Sort.flatK encK 2 d') (by rw [hsz', hcs]; omega)
      rw [hsz'] at h3
      rw [h3, List.map_id, kit_flat]
    · have h4 := grownBy_sortedG (enc := id) (w := w) (g := g) (n := n) (os := os) (Go.Sort.flatK encK 2 d')
      rw [hw2]
      exact Keeps.of_grown h4 (fun b hb => hb)
end Go.Proofs.Ytcecndjkfdaaaaa
