import Derived.Test.YtepkmhcchmladaaMr3
/- slices.Clone over pointers, and merge.Rows. -/
namespace Go.Proofs.Ytepkmhcchmladaa
open Go.RowKit
set_option linter.unusedVariables false
set_option linter.unusedSimpArgs false

theorem info30 : (Try.prog.info? 30).map (fun i => (i.zero, i.size, i.bytes)) = some (some (.pointer none), 1, 8) := by kernel_rfl
theorem eql_some26 (a : Addr) (n c : Nat) (w : World) : (binOp BinOp.eql 26 (Value.slice (some a) n c) (Value.slice none 0 0)).run Try.prog w = .ok (.bool false) w := by kernel_rfl
attribute [local go_sem ↓] eql_some26
theorem PRow'.below {w w' : World} {a : Option Addr} {ps : List (Option Addr)} (h : PRow' w a ps) (hb : Below w.heap.size w w') : PRow' w' a ps := by
  rcases h with rfl | ⟨b, off, rfl, hlt, hc⟩
  · exact .inl rfl
  · exact .inr ⟨b, off, rfl, Nat.lt_of_lt_of_le hlt hb.size, fun i hi => (hb.cell (p := ⟨b, off + i, none⟩) hlt).trans (hc i hi)⟩
theorem PRow'.keeps {N : Nat → Prop} {w w' : World} {a : Option Addr} {ps : List (Option Addr)} (h : PRow' w a ps) (hk : Keeps N w w') (hn : ∀ x, a = some x → ¬ N x.block) : PRow' w' a ps := by
  rcases h with rfl | ⟨b, off, rfl, hlt, hc⟩
  · exact .inl rfl
  · exact .inr ⟨b, off, rfl, Nat.lt_of_lt_of_le hlt hk.size, fun i hi => (World.cell?_of_block (a := ⟨b, off + i, none⟩) (hk.block b hlt (hn _ rfl))).trans (hc i hi)⟩
theorem addr_add (b off j : Nat) : (⟨b, off, none⟩ : Addr).add j = ⟨b, off + j, none⟩ := by
  unfold Addr.add
  split
  · rename_i h; rw [h]; rfl
  · rfl
theorem prow_news {w : World} {ad : Addr} {ps : List (Option Addr)} (h : PRow' w (some ad) ps) : ∀ j u, (ps.map Value.pointer)[j]? = some u → w.cell? (ad.add j) = some u := by
  intro j u hj
  rw [List.getElem?_map] at hj
  cases hc : ps[j]? with
  | none => rw [hc] at hj; cases hj
  | some x =>
    rw [hc] at hj
    obtain ⟨hl, rfl⟩ := List.getElem?_eq_some_iff.1 hc
    rcases h with rfl | ⟨b, off, hb, _, hcell⟩
    · simp at hl
    · cases hb
      simp only [Option.map_some, Option.some.injEq] at hj
      rw [← hj, addr_add, hcell j hl, List.getElem?_eq_getElem hl]; rfl
theorem ptr_one (ps : List (Option Addr)) : ∀ u ∈ ps.map Value.pointer, u.oneCell' = true := by
  intro u hu
  obtain ⟨x, _, rfl⟩ := List.mem_map.1 hu
  rfl
theorem prow_of_owns {w : World} {base n : Nat} {t : TypeId} {v : Value} {ps : List (Option Addr)} (h : w.ownsRow base t 1 v n (ps.map Value.pointer)) : ∃ a cap, v = .slice a ps.length cap ∧ n = ps.length ∧ PRow' w a ps ∧ ∀ q, a = some q → base ≤ q.block ∧ q.block < w.heap.size := by
  obtain ⟨hl, h | ⟨g, cap, cur, rfl, hb, hh, hn, hm, hcs, ht⟩⟩ := h
  · obtain ⟨rfl, rfl⟩ := h
    obtain rfl : ps = [] := by simpa using hl
    exact ⟨none, 0, rfl, rfl, .inl rfl, fun q hq => by cases hq⟩
  · have hnl : n = ps.length := by simpa using hl.symm
    refine ⟨_, cap, by rw [hnl], hnl, .inr ⟨g, 0, rfl, (Array.getElem?_eq_some_iff.1 hh).1, fun i hi => ?_⟩, fun q hq => by cases hq; exact ⟨hb, (Array.getElem?_eq_some_iff.1 hh).1⟩⟩
    have hx : cur[i]? = some (.pointer (ps[i]?.getD none)) := by
      have e1 : (cur.toList.take (n * 1))[i]? = some (.pointer (ps[i]?.getD none)) := by rw [ht]; simp [hi]
      rw [List.getElem?_take_of_lt (by omega)] at e1
      simpa using e1
    simp [World.cell?, hh, hx]
def CloneP (w : World) (ps : List (Option Addr)) (e : Ending) (w' : World) : Prop := ∃ a cap, e = .returned (.slice a ps.length cap) ∧ PRow' w' a ps ∧ (∀ q, a = some q → w.heap.size ≤ q.block) ∧ Below w.heap.size w w'
set_option maxRecDepth 100000 in
theorem cloneP_calls (ad : Addr) (cap : Nat) (ps : List (Option Addr)) (w : World) (ha : PRow' w (some ad) ps) (hx : ps.length ≤ 1000000) : Calls Try.prog 60 #[.slice (some ad) ps.length cap] w (CloneP w ps) := by
  obtain ⟨i1, hi', hz0', hz1', hz2'⟩ := info_parts info30
  have I' := Lib.hid hi'
  have Z0' := Lib.hid hz0'
  have Z1' := Lib.hid hz1'
  have Z2' := Lib.hid hz2'
  clear hi' hz0' hz1' hz2'
  obtain ⟨B, hB⟩ : ∃ B, w.heap.size = B := ⟨_, rfl⟩
  have HB := Lib.hid hB
  have O1 : Hid ((w.alloc (.cells #[] 30)).ownsRow B 30 1 (.slice (some ⟨w.heap.size, 0, none⟩) 0 0) 0 []) := Lib.hid (World.ownsRow_lit (base := B) (e := 30) (size := 1) w #[] 0 (Nat.le_of_eq HB.out.symm) (by decide) rfl)
  have B1 := Lib.hid ((Below.refl B w).alloc (Nat.le_of_eq HB.out.symm) (.cells #[] 30))
  have RN := Lib.hid (prow_news (ha.below ((Below.refl _ _).alloc (Nat.le_refl _) (.cells #[] 30))))
  clear hB ha
  go_enter Try.func60, Try.ntmps60
  go_wp2_with (first | (at_builtin; refine wpList_append_own _ rfl _ _ 26 rfl B 30 i1 (.pointer none) 1 8 Try.underlying26 I'.out Z0'.out Z1'.out Z2'.out rfl (by decide) _ _ _ rfl O1.out ad ps.length cap (ps.map Value.pointer) rfl (by simp) RN.out ?c2 ?c3 ?c4 ?c5 ?_))
  case c2 => exact ptr_one ps
  case c3 => unfold maxLen; omega
  case c4 => omega
  case c5 => simp; have := HB.out; omega
  intro v' w2 hown hgrow _
  have hown2 : w2.ownsRow B 30 1 v' ps.length (ps.map Value.pointer) := by simpa using hown
  obtain ⟨a9, c9, rfl, _, hr, hf⟩ := prow_of_owns hown2
  have F := Lib.hid (show CloneP w ps (.returned (.slice a9 ps.length c9)) w2 from ⟨a9, c9, rfl, hr, (fun q hq => by rw [HB.out]; exact (hf q hq).1), (by rw [HB.out]; exact B1.out.grown hgrow (by simp; have := HB.out; omega) (fun k hk => (O1.out.lt k hk).1))⟩)
  clear hown hown2 hgrow hr hf
  go_wp2_with fail
  go_ret
  exact F.out
/-- merge.Rows. -/
def RowsRet (w : World) (ps : List (Option Addr)) (e : Ending) (w' : World) : Prop := ∃ Bp ca cc, e = .returned (.func (.func 61) #[] #[.pointer (some ⟨Bp, 0, none⟩)]) ∧ w'.cell? ⟨Bp, 0, none⟩ = some (.slice ca ps.length cc) ∧ PRow' w' ca ps ∧ (w.heap.size ≤ Bp ∧ ∀ q, ca = some q → w.heap.size ≤ q.block) ∧ Below w.heap.size w w'
set_option maxRecDepth 100000 in
theorem rows_calls (ad : Addr) (cap : Nat) (ps : List (Option Addr)) (w : World) (ha : PRow' w (some ad) ps) (hx : ps.length ≤ 1000000) : Calls Try.prog 35 #[.slice (some ad) ps.length cap] w (RowsRet w ps) := by
  have cc := cloneP_calls ad cap ps w ha hx
  clear ha
  go_enter Try.func35, Try.ntmps35
  go_wp2_with fail
  refine cc.mono ?_
  rintro e w2 ⟨a, c, rfl, hr, hf, hb⟩
  have F := Lib.hid (show RowsRet w ps (.returned (.func (.func 61) #[] #[.pointer (some ⟨w2.heap.size, 0, none⟩)])) (w2.alloc (.cells #[.slice a ps.length c] 26)) from ⟨_, a, c, rfl, by go_simp, hr.below ((Below.refl _ _).alloc (Nat.le_refl _) _), ⟨hb.size, hf⟩, hb.alloc hb.size _⟩)
  clear hr hf hb cc
  go_wp2_with fail
  go_ret
  exact F.out
end Go.Proofs.Ytepkmhcchmladaa
