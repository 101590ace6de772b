/- Contract of lex.All. -/
import Derived.Test.YtecijhaclbbccaaDoorLxH
import Derived.Test.YtecijhaclbbccaaDoorLxM2
namespace Go.Proofs.YtecijhaclbbccaaDoor
open Go.RowKit
set_option linter.unusedVariables false
set_option linter.unusedSimpArgs false

def tkL (t : Tk) : List Value := [.int .i64 t.kind, .string t.text, .int .u64 t.num, .int .i64 t.at']
/-- The cells of a list of tokens. -/
def flatT (l : List Tk) : List Value := l.flatMap tkL
theorem flatT_len (l : List Tk) : (flatT l).length = l.length * 4 := by
  induction l with
  | nil => rfl
  | cons t l ih => simp only [flatT, List.flatMap_cons, List.length_append, List.length_cons] at *; rw [ih]; simp [tkL]; omega
theorem flatT_push (l : List Tk) (t : Tk) : flatT (l ++ [t]) = flatT l ++ [.int .i64 t.kind, .string t.text, .int .u64 t.num, .int .i64 t.at'] := by simp [flatT, tkL]
def tkAt (l : List Tk) (i : Nat) : Tk := l[i]?.getD zeroT
theorem flatT_at {l : List Tk} {i : Nat} (h : i < l.length) : (flatT l)[i * 4]? = some (.int .i64 (tkAt l i).kind) ∧ (flatT l)[i * 4 + 1]? = some (.string (tkAt l i).text) ∧ (flatT l)[i * 4 + 2]? = some (.int .u64 (tkAt l i).num) ∧ (flatT l)[i * 4 + 3]? = some (.int .i64 (tkAt l i).at') := by
  induction l generalizing i with
  | nil => simp at h
  | cons t l ih =>
    cases i with
    | zero => simp [flatT, tkL, tkAt]
    | succ i =>
      have := ih (i := i) (by simpa using h)
      rw [show (i + 1) * 4 = i * 4 + 4 by omega]
      simpa [flatT, tkL, tkAt] using this
/-- The slice at address a reads as the tokens l. -/
def TRow (w : World) (a : Option Addr) (l : List Tk) : Prop :=
  l = [] ∨ ∃ g, a = some ⟨g, 0, none⟩ ∧ g < w.heap.size ∧ ∀ i, i < l.length → w.cell? ⟨g, i * 4, none⟩ = some (.int .i64 (tkAt l i).kind) ∧ w.cell? ⟨g, i * 4 + 1, none⟩ = some (.string (tkAt l i).text) ∧ w.cell? ⟨g, i * 4 + 2, none⟩ = some (.int .u64 (tkAt l i).num) ∧ w.cell? ⟨g, i * 4 + 3, none⟩ = some (.int .i64 (tkAt l i).at')
theorem TRow.below {w w' : World} {a : Option Addr} {l : List Tk} (h : TRow w a l) (hb : Below w.heap.size w w') : TRow w' a l := by
  rcases h with rfl | ⟨g, rfl, hlt, hc⟩
  · exact .inl rfl
  · refine .inr ⟨g, rfl, Nat.lt_of_lt_of_le hlt hb.size, fun i hi => ?_⟩
    obtain ⟨h0, h1, h2, h3⟩ := hc i hi
    exact ⟨(hb.cell (p := ⟨g, i * 4, none⟩) hlt).trans h0, (hb.cell (p := ⟨g, i * 4 + 1, none⟩) hlt).trans h1, (hb.cell (p := ⟨g, i * 4 + 2, none⟩) hlt).trans h2, (hb.cell (p := ⟨g, i * 4 + 3, none⟩) hlt).trans h3⟩
theorem trow_of_owns {w : World} {base : Nat} {v : Value} {n : Nat} {l : List Tk} (h : w.ownsRow base 31 4 v n (flatT l)) : ∃ a cap, v = .slice a l.length cap ∧ TRow w a l := by
  have hn : n = l.length := by have := h.1; rw [flatT_len] at this; omega
  rcases h.2 with ⟨rfl, h0⟩ | ⟨g, cap, cur, rfl, hb, hh, _⟩
  · have : l = [] := List.eq_nil_of_length_eq_zero (by omega)
    subst this
    exact ⟨none, 0, rfl, .inl rfl⟩
  · subst hn
    refine ⟨_, cap, rfl, .inr ⟨g, rfl, (Array.getElem?_eq_some_iff.1 hh).1, fun i hi => ?_⟩⟩
    obtain ⟨f0, f1, f2, f3⟩ := flatT_at hi
    exact ⟨(h.cellAt (i * 4) (by omega)).trans f0, (h.cellAt (i * 4 + 1) (by omega)).trans f1, (h.cellAt (i * 4 + 2) (by omega)).trans f2, (h.cellAt (i * 4 + 3) (by omega)).trans f3⟩
theorem owns_below {w w' : World} {base : Nat} {t : TypeId} {k : Nat} {v : Value} {n : Nat} {xs : List Value} (h : w.ownsRow base t k v n xs) (hb : Below w.heap.size w w') : w'.ownsRow base t k v n xs := by
  refine ⟨h.1, ?_⟩
  rcases h.2 with h0 | ⟨r, cap, cur, rfl, hb2, hr, hrest⟩
  · exact .inl h0
  · exact .inr ⟨r, cap, cur, rfl, hb2, (hb.block r (Array.getElem?_eq_some_iff.1 hr).1).trans hr, hrest⟩
theorem info31 : (Tryd.prog.info? 31).map (fun i => (i.zero, i.size, i.bytes)) = some (some (.agg #[.int .i64 0, .string ⟨#[]⟩, .int .u64 0, .int .i64 0]), 4, 40) := by kernel_rfl
theorem cell_four_new (w : World) (x0 x1 x2 x3 : Value) (t : TypeId) : ∀ j u, [x0, x1, x2, x3][j]? = some u → (w.alloc (.cells #[x0, x1, x2, x3] t)).cell? ((⟨w.heap.size, 0, none⟩ : Addr).add j) = some u := by
  intro j u h
  match j, h with
  | 0, h => cases h; simp [Addr.add]
  | 1, h => cases h; simp [Addr.add]
  | 2, h => cases h; simp [Addr.add]
  | 3, h => cases h; simp [Addr.add]
  | j + 4, h => simp at h
/-- What All gives. -/
def AllRet (w : World) (r : Rs) (e : Ending) (w' : World) : Prop := Below w.heap.size w w' ∧ match r with
  | .ok l => ∃ a cap, e = .returned (.tuple #[.slice a l.length cap, .nilIface]) ∧ TRow w' a l
  | .no tag p => ∃ b txt, e = .returned (.tuple #[.slice none 0 0, .iface 70 (.pointer (some ⟨b, 0, none⟩))]) ∧ w.heap.size ≤ b ∧ FaultAt w' b tag (p : Int) txt .nilIface
set_option maxRecDepth 100000 in
set_option maxHeartbeats 2000000 in
theorem all_calls (s : ByteArray) (w : World) (hs : s.size ≤ 100000) (ht : SignTab w) : Calls Tryd.prog 11 #[.string s] w (AllRet w (allM (bs s))) := by
  obtain ⟨i0, hi0, hz0, hz1, hz2⟩ := info_parts info31
  have I := Lib.hid hi0
  have Z0 := Lib.hid hz0
  have Z1 := Lib.hid hz1
  have Z2 := Lib.hid hz2
  clear hi0 hz0 hz1 hz2
  have cs : Calls Tryd.prog 20 #[.string s, .int .i64 0] w fun e w' => e = .returned (.int .i64 (skipM false (bs s) : Nat)) ∧ w = w' := by
    have := skip_calls s 0 w (by omega) (by omega)
    rw [Nat.zero_add, List.drop_zero] at this; exact this
  have S0 : skipM false (bs s) ≤ s.size := by have := skip_le false (bs s); rw [bs_len] at this; exact this
  have AE := Lib.hid (allM_eq (bs s))
  have HT := Lib.hid ht
  generalize skipM false (bs s) = p0 at *
  obtain ⟨B, hB⟩ : ∃ B, w.heap.size = B := ⟨_, rfl⟩
  have HB := Lib.hid hB
  clear ht hB
  go_enter Tryd.func11, Tryd.ntmps11
  go_wp2_with fail
  refine cs.mono ?_
  rintro e w' ⟨rfl, rfl⟩
  clear cs
  go_wp2_with fail
  go_loopw [5, 4] (fun i v wr => ∃ (p : Nat) (acc : List Tk), p ≤ s.size ∧ acc.length ≤ p ∧ i = .int .i64 p ∧ Hid (wr.ownsRow B 31 4 v acc.length (flatT acc)) ∧ Hid (Below B w wr) ∧ Hid (allM (bs s) = (allP (bs s) p).pre acc)) (fun i _ _ => s.size - (intOf i).toNat)
  case atStart => exact ⟨p0, [], S0, by simp, rfl, Lib.hid (World.ownsRow_nil _ _ _ _), Lib.hid (Below.refl _ _), Lib.hid (by rw [AE.out]; cases allP (bs s) p0 <;> rfl)⟩
  case round =>
    obtain ⟨p, acc, hp, hal, rfl, HO, HBe, HE⟩ := hrel
    have hBr : B ≤ wr.heap.size := by have := HBe.out.size; rw [HB.out] at this; exact this
    have HTr := Lib.hid (HT.out.below (by rw [HB.out]; exact HBe.out))
    by_cases hlt : p < s.size
    · have hlt2 : p < (bs s).length := by rw [bs_len]; exact hlt
      have cn := next_calls s p wr hlt (by omega) HTr.out
      have ho := next_ok hlt2
      rw [bs_len] at ho
      go_wp2_with fail
      refine cn.mono ?_
      intro e w1 hret
      obtain ⟨hb1, hm1⟩ := hret
      cases hN : nextM ((bs s).drop p) p with
      | no tag q =>
        rw [hN] at hm1
        obtain ⟨b1, txt1, he1, hle1, hf1⟩ := hm1
        have hm2 : e = .returned (.tuple #[.agg #[.int .i64 0, .string ⟨#[]⟩, .int .u64 0, .int .i64 0], .int .i64 0, .iface 70 (.pointer (some ⟨b1, 0, none⟩))]) := he1
        subst hm2
        have DF : Hid (allM (bs s) = .no tag q) := Lib.hid (by rw [HE.out, allP_no hlt2 hN]; rfl)
        have F1 := Lib.hid hf1
        have hb1B : B ≤ b1 := by omega
        have B1 : Hid (Below B w w1) := Lib.hid (HBe.out.trans (hb1.mono hBr))
        have s1 := hb1.size
        have R1 : Hid (AllRet w (allM (bs s)) (.returned (.tuple #[.slice none 0 0, .iface 70 (.pointer (some ⟨b1, 0, none⟩))])) (w1.alloc (.cells #[.int .i64 0, .string ⟨#[]⟩, .int .u64 0, .int .i64 0] 31))) := Lib.hid (by
          rw [DF.out]
          exact ⟨by rw [HB.out]; exact B1.out.alloc (by omega) _, b1, txt1, rfl, by rw [HB.out]; exact hb1B, F1.out.alloc _⟩)
        clear he1 hle1 hf1 hb1 hN cn
        go_wp2_with fail
        go_ret2
        exact R1.out
      | ok t k =>
        rw [hN] at hm1 ho
        have hm2 : e = .returned (.tuple #[.agg #[.int .i64 t.kind, .string t.text, .int .u64 t.num, .int .i64 t.at'], .int .i64 (k : Int), .nilIface]) := hm1
        subst hm2
        have HOK := Lib.hid (allP_ok hlt2 hN)
        have hk1 := ho.1
        have hk2 := ho.2.1
        have B1 : Hid (Below B w w1) := Lib.hid (HBe.out.trans (hb1.mono hBr))
        have O1 := Lib.hid (owns_below HO.out hb1)
        have s1 := hb1.size
        clear hm1 hN ho cn hb1
        have O2 := Lib.hid (owns_below O1.out ((Below.refl _ _).alloc (Nat.le_refl _) (.cells #[.int .i64 t.kind, .string t.text, .int .u64 t.num, .int .i64 t.at'] 31)))
        have B2 : Hid (Below B w (w1.alloc (.cells #[.int .i64 t.kind, .string t.text, .int .u64 t.num, .int .i64 t.at'] 31))) := Lib.hid (B1.out.alloc (by omega) _)
        have SK : k + skipM false ((bs s).drop k) ≤ s.size := by
          have h9 := skip_le false ((bs s).drop k)
          rw [List.length_drop, bs_len] at h9; omega
        have csk := fun W => skip_calls s k W hk2 (by omega)
        have NX : Hid (allM (bs s) = (allP (bs s) (k + skipM false ((bs s).drop k))).pre (acc ++ [t])) := Lib.hid (by rw [HE.out, HOK.out, pre_cons])
        have hk3 : p < k + skipM false ((bs s).drop k) := by omega
        generalize k + skipM false ((bs s).drop k) = p2 at *
        have hp2 : acc.length + 1 ≤ p2 := by omega
        clear HOK
        go_wp2_with (first | (at_builtin; refine wpList_append_own _ rfl _ _ 25 rfl B 31 i0 (.agg #[.int .i64 0, .string ⟨#[]⟩, .int .u64 0, .int .i64 0]) 4 40 Tryd.underlying25 I.out Z0.out Z1.out Z2.out rfl (by decide) _ _ _ rfl (O2.out.alloc _) ⟨w1.heap.size + 1, 0, none⟩ 1 1 [.int .i64 t.kind, .string t.text, .int .u64 t.num, .int .i64 t.at'] rfl rfl ?c1 ?c2 ?c3 ?c4 ?c5 ?_))
        case c1 =>
          have h9 := cell_four_new (w1.alloc (.cells #[.int .i64 t.kind, .string t.text, .int .u64 t.num, .int .i64 t.at'] 31)) (.int .i64 t.kind) (.string t.text) (.int .u64 t.num) (.int .i64 t.at') 31
          simpa using h9
        case c2 =>
          intro u hu
          simp only [List.mem_cons, List.not_mem_nil, or_false] at hu
          rcases hu with rfl | rfl | rfl | rfl <;> rfl
        case c3 => unfold maxLen; omega
        case c4 => omega
        case c5 => simp; omega
        intro v' w3 hown hgrow _
        have O3 : Hid (w3.ownsRow B 31 4 v' (acc ++ [t]).length (flatT (acc ++ [t]))) := Lib.hid (by rw [flatT_push, List.length_append]; exact hown)
        have B3 : Hid (Below B w w3) := Lib.hid ((B2.out.alloc (by simp; omega) _).grown hgrow (by simp; omega) (fun k hk => (O2.out.lt k hk).1))
        clear hown hgrow
        go_wp2_with fail
        refine (csk w3).mono ?_
        rintro e w' ⟨rfl, rfl⟩
        clear csk
        go_wp2_with fail
        go_roundw
        case rel => exact ⟨p2, acc ++ [t], SK, by rw [List.length_append]; exact hp2, by go_num, O3, B3, NX⟩
        case measure => simp [intOf]; omega
    · have DF : Hid (allM (bs s) = .ok (acc ++ [⟨0, ⟨#[]⟩, 0, s.size⟩])) := Lib.hid (by rw [HE.out, allP_end (by rw [bs_len]; exact hlt), bs_len]; rfl)
      go_wp2_with (first | (at_builtin; refine wpList_append_own _ rfl _ _ 25 rfl B 31 i0 (.agg #[.int .i64 0, .string ⟨#[]⟩, .int .u64 0, .int .i64 0]) 4 40 Tryd.underlying25 I.out Z0.out Z1.out Z2.out rfl (by decide) _ _ _ rfl (HO.out.alloc _) ⟨wr.heap.size, 0, none⟩ 1 1 [.int .i64 0, .string ⟨#[]⟩, .int .u64 0, .int .i64 s.size] rfl rfl ?e1 ?e2 ?e3 ?e4 ?e5 ?_))
      case e1 => exact cell_four_new wr _ _ _ _ 31
      case e2 =>
        intro u hu
        simp only [List.mem_cons, List.not_mem_nil, or_false] at hu
        rcases hu with rfl | rfl | rfl | rfl <;> rfl
      case e3 => unfold maxLen; omega
      case e4 => omega
      case e5 => simp; omega
      intro v' w3 hown hgrow _
      have O3 : w3.ownsRow B 31 4 v' (acc ++ [(⟨0, ⟨#[]⟩, 0, s.size⟩ : Tk)]).length (flatT (acc ++ [(⟨0, ⟨#[]⟩, 0, s.size⟩ : Tk)])) := by rw [flatT_push, List.length_append]; exact hown
      obtain ⟨a9, c9, rfl, ht9⟩ := trow_of_owns O3
      have R9 : Hid (AllRet w (allM (bs s)) (.returned (.tuple #[.slice a9 (acc ++ [(⟨0, ⟨#[]⟩, 0, s.size⟩ : Tk)]).length c9, .nilIface])) w3) := Lib.hid (by
        rw [DF.out]
        exact ⟨by rw [HB.out]; exact (HBe.out.alloc hBr _).grown hgrow (by simp; omega) (fun k hk => (HO.out.lt k hk).1), a9, c9, rfl, ht9⟩)
      clear hown hgrow O3 ht9
      generalize (acc ++ [(⟨0, ⟨#[]⟩, 0, s.size⟩ : Tk)]).length = nl at *
      go_wp2_with fail
      go_ret2
      exact R9.out
end Go.Proofs.YtecijhaclbbccaaDoor
