/- Contracts of slices.Clone over numbers, and of a relation's Col. -/
import Derived.Test.YtcecndjkfdaaaaaDoorSg10
import Derived.Test.YtcecndjkfdaaaaaDoorIx5
namespace Go.Proofs.YtcecndjkfdaaaaaDoor
open Go.RowKit
set_option linter.unusedVariables false
set_option linter.unusedSimpArgs false

/-- A call that returns a slice of its own that reads as zs. -/
def FreshRet (w : World) (zs : List Int) (e : Ending) (w' : World) : Prop := ∃ a cap, e = .returned (.slice a zs.length cap) ∧ Row w' a zs ∧ zs.length ≤ cap ∧ (∀ p, a = some p → w.heap.size ≤ p.block ∧ p.block < w'.heap.size) ∧ Below w.heap.size w w'
theorem add_eq (b off j : Nat) : (⟨b, off, none⟩ : Addr).add j = ⟨b, off + j, none⟩ := by
  unfold Addr.add
  split
  · rename_i h; rw [h]; rfl
  · rfl
theorem row_news {w : World} {ad : Addr} {xs : List Int} (h : Row w (some ad) xs) : ∀ j u, (xs.map (Value.int .i64))[j]? = some u → w.cell? (ad.add j) = some u := by
  intro j u hj
  rw [List.getElem?_map] at hj
  cases hc : xs[j]? with
  | none => rw [hc] at hj; cases hj
  | some x =>
    rw [hc] at hj
    obtain ⟨hl, rfl⟩ := List.getElem?_eq_some_iff.1 hc
    obtain ⟨b, off, hb, _, hcell⟩ := h.at hl
    cases hb
    simp only [Option.map_some, Option.some.injEq] at hj
    rw [← hj]
    rw [List.getElem?_eq_getElem hl] at hcell
    rw [add_eq]
    exact hcell
theorem int_one (xs : List Int) : ∀ u ∈ xs.map (Value.int .i64), u.oneCell' = true := by
  intro u hu
  obtain ⟨x, _, rfl⟩ := List.mem_map.1 hu
  rfl
theorem fresh_of_owns {w : World} {B n : Nat} {t : TypeId} {v : Value} {zs : List Int} (h : w.ownsRow B t 1 v n (zs.map (Value.int .i64))) : ∃ a cap, v = .slice a zs.length cap ∧ Row w a zs ∧ zs.length ≤ cap ∧ ∀ p, a = some p → B ≤ p.block ∧ p.block < w.heap.size := by
  obtain ⟨a, cap, rfl, hr⟩ := row_of_owns h
  refine ⟨a, cap, rfl, hr, owns_cap h, fun p hp => ?_⟩
  rcases h.2 with ⟨h0, _⟩ | ⟨g, c, cur, hv, hb, hh, _⟩
  · simp only [Value.slice.injEq] at h0; rw [h0.1] at hp; cases hp
  · simp only [Value.slice.injEq] at hv; rw [hv.1] at hp; cases hp; exact ⟨hb, (Array.getElem?_eq_some_iff.1 hh).1⟩
theorem eql_some24 (a : Addr) (n c : Nat) (w : World) : (binOp BinOp.eql 22 (Value.slice (some a) n c) (Value.slice none 0 0)).run Tryd.prog w = .ok (.bool false) w := by kernel_rfl
attribute [local go_sem ↓] eql_some24
set_option maxRecDepth 100000 in
theorem clone_calls (ad : Addr) (cap : Nat) (xs : List Int) (w : World) (ha : Row w (some ad) xs) (hx : xs.length ≤ 1000000) : Calls Tryd.prog 59 #[.slice (some ad) xs.length cap] w (FreshRet w xs) := by
  obtain ⟨i1, hi', hz0', hz1', hz2'⟩ := info_parts info2
  have I' := Lib.hid hi'
  have Z0' := Lib.hid hz0'
  have Z1' := Lib.hid hz1'
  have Z2' := Lib.hid hz2'
  clear hi' hz0' hz1' hz2'
  obtain ⟨B, hB⟩ : ∃ B, w.heap.size = B := ⟨_, rfl⟩
  have HB := Lib.hid hB
  have O1 : Hid ((w.alloc (.cells #[] 2)).ownsRow B 2 1 (.slice (some ⟨w.heap.size, 0, none⟩) 0 0) 0 []) := Lib.hid (World.ownsRow_lit (base := B) (e := 2) (size := 1) w #[] 0 (Nat.le_of_eq HB.out.symm) (by decide) rfl)
  have B1 := Lib.hid ((Below.refl B w).alloc (Nat.le_of_eq HB.out.symm) (.cells #[] 2))
  have RN := Lib.hid (row_news (ha.alloc (.cells #[] 2)))
  clear hB ha
  go_enter Tryd.func59, Tryd.ntmps59
  go_wp2_with (first | (at_builtin; refine wpList_append_own _ rfl _ _ 22 rfl B 2 i1 (.int .i64 0) 1 8 Tryd.underlying22 I'.out Z0'.out Z1'.out Z2'.out rfl (by decide) _ _ _ rfl O1.out ad xs.length cap (xs.map (Value.int .i64)) rfl (by simp) RN.out ?c2 ?c3 ?c4 ?c5 ?_))
  case c2 => exact int_one xs
  case c3 => unfold maxLen; omega
  case c4 => omega
  case c5 => simp; have := HB.out; omega
  intro v' w2 hown hgrow _
  have hown2 : w2.ownsRow B 2 1 v' xs.length (xs.map (Value.int .i64)) := by simpa using hown
  obtain ⟨a9, c9, rfl, hr, hc9, hf⟩ := fresh_of_owns hown2
  have F := Lib.hid (show FreshRet w xs (.returned (.slice a9 xs.length c9)) w2 from ⟨a9, c9, rfl, hr, hc9, (by rw [HB.out]; exact hf), (by rw [HB.out]; exact B1.out.grown hgrow (by simp; have := HB.out; omega) (fun k hk => (O1.out.lt k hk).1))⟩)
  clear hown hown2 hgrow hr hf
  go_wp2_with fail
  go_ret
  exact F.out
set_option maxRecDepth 100000 in
theorem col_calls {w : World} {p : Option Addr} {wd : Nat} {rs : List (List Int)} (h : Seg w p wd rs) (k : Nat) (hk : k < wd) (hwd : wd ≤ 1000) (hrs : rs.length ≤ 1000000) :
    Calls Tryd.prog 43 #[.pointer p, .int .i64 k] w (FreshRet w (colOf rs k)) := by
  have cw := segWidth_calls h
  obtain ⟨_, _, ⟨_, h0, _⟩ | ⟨g, a, n, c, rfl, hg, hr⟩⟩ := h
  · omega
  · obtain ⟨c0, c1, c2⟩ := segCells hg
    have t1 : decide ((k : Int) < 0) = false := decide_eq_false (by omega)
    have t2 : decide ((wd : Int) ≤ (k : Int)) = false := decide_eq_false (by omega)
    by_cases he : rs.length = 0
    · have t3 : ((rs.length : Int) == 0) = true := by simp [he]
      have E : Hid (colOf rs k = []) := Lib.hid (by rw [List.eq_nil_of_length_eq_zero he]; rfl)
      clear hg hr
      go_enter Tryd.func43, Tryd.ntmps43
      go_wp2_with fail
      refine cw.mono ?_
      rintro e w' ⟨rfl, rfl⟩
      go_wp2_with fail
      go_ret
      rw [E.out]
      exact ⟨none, 0, rfl, .inl rfl, Nat.le_refl _, (fun p hp => by cases hp), Below.refl _ _⟩
    · have t3 : ((rs.length : Int) == 0) = false := beq_eq_false_iff_ne.2 (by omega)
      rcases hr with h0 | ⟨rfl, K, hK, hR⟩
      · rw [h0] at he; simp at he
      · obtain ⟨_, b, off, xa, xc, rfl, hb, hc, hrow, _⟩ := colAt hK hR hk
        obtain ⟨b2, off2, rfl, _, _⟩ := hrow.at (k := 0) (by rw [colOf_len]; omega)
        have cl := clone_calls ⟨b2, off2, none⟩ xc (colOf rs k) w hrow (by rw [colOf_len]; exact hrs)
        rw [colOf_len] at cl
        clear hg hrow hK hR
        go_enter Tryd.func43, Tryd.ntmps43
        go_wp2_with fail
        refine cw.mono ?_
        rintro e w' ⟨rfl, rfl⟩
        go_wp2_with fail
        refine cl.mono ?_
        rintro e w2 ⟨a9, c9, rfl, h1, h2, h3, h4⟩
        have F := Lib.hid (show FreshRet w (colOf rs k) (.returned (.slice a9 (colOf rs k).length c9)) w2 from ⟨a9, c9, rfl, h1, h2, h3, h4⟩)
        clear h1 h2 h3 h4 cl
        go_wp2_with fail
        go_ret
        exact F.out
end Go.Proofs.YtcecndjkfdaaaaaDoor
