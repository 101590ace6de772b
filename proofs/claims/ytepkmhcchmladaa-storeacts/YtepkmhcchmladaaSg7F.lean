import Derived.Test.YtepkmhcchmladaaSg7
/- Row of a relation, told with its block. -/
namespace Go.Proofs.Ytepkmhcchmladaa
open Go.RowKit
set_option linter.unusedVariables false
set_option linter.unusedSimpArgs false

/-- A slice of the call's own, in a new block. -/
def FreshRet (w : World) (zs : List Int) (e : Ending) (w' : World) : Prop := ∃ a cap, e = .returned (.slice a zs.length cap) ∧ Row w' a zs ∧ zs.length ≤ cap ∧ (∀ p, a = some p → w.heap.size ≤ p.block ∧ p.block < w'.heap.size) ∧ Below w.heap.size w w'
theorem owns_cap {w : World} {B n : Nat} {t : TypeId} {a : Option Addr} {m c : Nat} {vs : List Value} (h : w.ownsRow B t 1 (.slice a m c) n vs) : m ≤ c := by
  rcases h.2 with ⟨h0, _⟩ | ⟨g, cap, cur, hv, hb, hh, hn, hrest⟩
  · cases h0; exact Nat.le_refl _
  · cases hv; exact hn
theorem fresh_of_owns {w : World} {B n : Nat} {t : TypeId} {v : Value} {zs : List Int} (h : w.ownsRow B t 1 v n (zs.map (Value.int .i64))) : ∃ a cap, v = .slice a zs.length cap ∧ Row w a zs ∧ zs.length ≤ cap ∧ ∀ p, a = some p → B ≤ p.block ∧ p.block < w.heap.size := by
  obtain ⟨a, cap, rfl, hr⟩ := row_of_owns h
  refine ⟨a, cap, rfl, hr, owns_cap h, fun p hp => ?_⟩
  rcases h.2 with ⟨h0, _⟩ | ⟨g, c, cur, hv, hb, hh, _⟩
  · simp only [Value.slice.injEq] at h0; rw [h0.1] at hp; cases hp
  · simp only [Value.slice.injEq] at hv; rw [hv.1] at hp; cases hp; exact ⟨hb, (Array.getElem?_eq_some_iff.1 hh).1⟩
set_option maxRecDepth 100000 in
set_option maxHeartbeats 2000000 in
theorem segRowF_calls {w : World} {p : Option Addr} {wd : Nat} {rs : List (List Int)} (h : Seg w p wd rs) (i : Nat) (hi : i < rs.length) (hwd : wd ≤ 1000) (hrs : rs.length ≤ 1000000) :
    Calls Try.prog 69 #[.pointer p, .int .i64 i] w (FreshRet w (rowAt rs i)) := by
  obtain ⟨i1, hi', hz0', hz1', hz2'⟩ := info_parts info2
  have I' := Lib.hid hi'
  have Z0' := Lib.hid hz0'
  have Z1' := Lib.hid hz1'
  have Z2' := Lib.hid hz2'
  clear hi' hz0' hz1' hz2'
  have hlen := segLen_calls h
  have hl : (rowAt rs i).length = wd := h.2.1 _ (rowAt_mem hi)
  obtain ⟨_, _, ⟨_, _, h0⟩ | ⟨g, a, n, c, rfl, hg, hr⟩⟩ := h
  · rw [h0] at hi; simp at hi
  · have hgl := (Array.getElem?_eq_some_iff.1 hg).1
    obtain ⟨c0, c1, c2⟩ := segCells hg
    rcases hr with h0 | ⟨rfl, K, hK, hR⟩
    · rw [h0] at hi; simp at hi
    · have HK := Lib.hid hK
      have HR := Lib.hid hR
      have HL := Lib.hid hl
      obtain ⟨B, hB⟩ : ∃ B, w.heap.size = B := ⟨_, rfl⟩
      have HB := Lib.hid hB
      have t1 : decide ((i : Int) < 0) = false := decide_eq_false (by omega)
      have t2 : decide (rs.length ≤ i) = false := decide_eq_false (by omega)
      clear hg hK hR hl hB
      go_enter Try.func69, Try.ntmps69
      go_wp2_with (first | (go_at_call 12; refine hlen.mono ?_; rintro e w' ⟨rfl, rfl⟩) | (refine wpList_make_full _ rfl (.tmp 19) (.tmp 19) 33 rfl B 2 i1 (.int .i64 0) 1 Try.underlying33 I'.out Z0'.out Z1'.out .i64 .i64 _ _ n rfl rfl rfl rfl ?d1 ?d2 ?d3 ?_))
      case d1 => rw [Z2'.out]; omega
      case d2 => unfold maxLen; omega
      case d3 => rw [HB.out]; exact Nat.le_refl _
      intro w1 hown hgrow
      rw [HB.out] at hown ⊢
      rw [made_ints, ← filled_zero (fun k => (rowAt rs i)[k]?.getD 0)] at hown
      have O1 := Lib.hid hown
      have B1 : Hid (Below B w w1) := Lib.hid (grown_below hgrow (Nat.le_of_eq HB.out.symm))
      have d2 : w1.cell? ⟨g, 2, none⟩ = some (.slice a n c) := (B1.out.cell (p := ⟨g, 2, none⟩) (by show g < B; rw [← HB.out]; exact hgl)).trans c2
      clear hown hgrow hlen c0 c1 c2
      go_wp2_with fail
      go_loopw [26] (fun s wr => ∃ k : Nat, k ≤ n ∧ s = .int .i64 k ∧ Hid (wr.ownsRow B 2 1 (.slice (some ⟨B, 0, none⟩) n n) n ((filled (fun k => (rowAt rs i)[k]?.getD 0) n k).map (Value.int .i64))) ∧ Hid (Below B w wr)) (fun s _ => n - (intOf s).toNat)
      case atStart => exact ⟨0, Nat.zero_le _, rfl, O1, B1⟩
      case round =>
        obtain ⟨k, hk, rfl, HO, HBe⟩ := hrel
        by_cases hlt : k < n
        · obtain ⟨_, b, off, xa, xc, rfl, hb, hc, hrow, _⟩ := colAt HK.out (HR.out.belowB HB.out HBe.out) hlt
          obtain ⟨b2, off2, rfl, hb2, hc2⟩ := hrow.at (k := i) (by rw [colOf_len]; exact hi)
          rw [colOf_at hi] at hc2
          obtain ⟨y, hy⟩ : ∃ y, (filled (fun k => (rowAt rs i)[k]?.getD 0) n k)[k]? = some y := ⟨_, List.getElem?_eq_getElem (by rw [filled_len]; exact hlt)⟩
          have cc : wr.cell? ⟨B, k, none⟩ = some (.int .i64 y) := (HO.out.cellAt k (by omega)).trans (by rw [List.getElem?_map, hy]; rfl)
          have fc := HO.out.frozenAt k
          have hst : Hid ((wr.setCell ⟨B, k, none⟩ (.int .i64 ((rowAt rs i)[k]?.getD 0))).ownsRow B 2 1 (.slice (some ⟨B, 0, none⟩) n n) n ((filled (fun k => (rowAt rs i)[k]?.getD 0) n (k + 1)).map (Value.int .i64))) := Lib.hid (by
            have := (HO.out.stored k (.int .i64 ((rowAt rs i)[k]?.getD 0))).1
            rw [← List.map_set, filled_set (fun k => (rowAt rs i)[k]?.getD 0) n k hlt] at this
            exact this)
          have hbs : Hid (Below B w (wr.setCell ⟨B, k, none⟩ (.int .i64 ((rowAt rs i)[k]?.getD 0)))) := Lib.hid (HBe.out.setCell (p := ⟨B, k, none⟩) (Nat.le_refl _) _)
          clear hrow hy
          generalize (rowAt rs i)[k]?.getD 0 = z at *
          go_wp2_with fail
          go_roundw
          case rel => exact ⟨k + 1, by omega, by go_num, hst, hbs⟩
          case measure => simp [intOf]; omega
        · obtain rfl : k = n := by omega
          have hfin := HO.out
          rw [filled_row HL.out] at hfin
          obtain ⟨a9, c9, ha9, hrow, hcap, hfr⟩ := fresh_of_owns hfin
          have HF := Lib.hid hfr
          rw [ha9]
          have HRw := Lib.hid hrow
          clear hfin hrow ha9 hfr
          go_wp2_with fail
          go_ret
          exact ⟨a9, c9, rfl, HRw.out, hcap, by rw [HB.out]; exact HF.out, by rw [HB.out]; exact HBe.out⟩
end Go.Proofs.Ytepkmhcchmladaa
