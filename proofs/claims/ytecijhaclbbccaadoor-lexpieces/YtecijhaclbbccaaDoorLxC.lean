/- Contracts of the lexer's word, number, escaped, quoted, sign, next. Written by mklxc.py. -/
import Derived.Test.YtecijhaclbbccaaDoorLxB
import Derived.Test.YtecijhaclbbccaaDoorShelf
namespace Go.Proofs.YtecijhaclbbccaaDoor
open Go.RowKit
set_option linter.unusedVariables false
set_option linter.unusedSimpArgs false

def FailRet (w : World) (tag : Int) (p : Nat) (e : Ending) (w' : World) : Prop := Below w.heap.size w w' ∧ ∃ b txt, e = .returned (.tuple #[.agg #[.int .i64 0, .string ⟨#[]⟩, .int .u64 0, .int .i64 0], .int .i64 0, .iface 70 (.pointer (some ⟨b, 0, none⟩))]) ∧ w.heap.size ≤ b ∧ FaultAt w' b tag (p : Int) txt .nilIface
theorem fail_is (t : Int) (p : Nat) (x : ByteArray) (w : World) : Calls Tryd.prog 43 #[.int .i64 t, .int .i64 p, .string x] w (FailRet w t p) := (fail_calls t p x w).mono fun _ _ h => h
def zbox (w : World) (G : Nat) : Prop := w.heap[G]? = some (.cells #[.int .i64 0, .string ⟨#[]⟩, .int .u64 0, .int .i64 0] 31 (0, 0))
theorem zbox_new (w : World) : zbox (w.alloc (.cells #[.int .i64 0, .string ⟨#[]⟩, .int .u64 0, .int .i64 0] 31)) w.heap.size := heap_alloc_new w _
theorem zbox.below {w w' : World} {G : Nat} (h : zbox w G) (hb : Below w.heap.size w w') : zbox w' G := (hb.block G (Array.getElem?_eq_some_iff.1 h).1).trans h
theorem box_no {w W w1 : World} {G b : Nat} {tag : Int} {p : Nat} {txt : ByteArray} (hG : w.heap.size = G) (hx : zbox W G) (hbel : Below G w W) (hb : Below W.heap.size W w1) (hle : W.heap.size ≤ b) (hf : FaultAt w1 b tag (p : Int) txt .nilIface) :
    w1.heap[G]? = some (.cells #[.int .i64 0, .string ⟨#[]⟩, .int .u64 0, .int .i64 0] 31 (0, 0)) ∧ NxRet w (.no tag p) (.returned (.tuple #[.agg #[.int .i64 0, .string ⟨#[]⟩, .int .u64 0, .int .i64 0], .int .i64 0, .iface 70 (.pointer (some ⟨b, 0, none⟩))])) ((((w1.setCell ⟨G, 0, none⟩ (.int .i64 0)).setCell ⟨G, 1, none⟩ (.string ⟨#[]⟩)).setCell ⟨G, 2, none⟩ (.int .u64 0)).setCell ⟨G, 3, none⟩ (.int .i64 0)) := by
  have hlt : G < W.heap.size := (Array.getElem?_eq_some_iff.1 hx).1
  have bb : Below G w w1 := hbel.trans (hb.mono (by omega))
  refine ⟨hx.below hb, by rw [hG]; exact below_set4 bb (Nat.le_refl _), b, txt, rfl, by omega, fault_set4 hf (by omega)⟩
theorem box_ok {w W : World} {G : Nat} (hG : w.heap.size = G) (hx : zbox W G) (hbel : Below G w W) (t : Tk) (k : Nat) :
    NxRet w (.ok t k) (.returned (.tuple #[.agg #[.int .i64 t.kind, .string t.text, .int .u64 t.num, .int .i64 t.at'], .int .i64 k, .nilIface])) ((((W.setCell ⟨G, 0, none⟩ (.int .i64 t.kind)).setCell ⟨G, 1, none⟩ (.string t.text)).setCell ⟨G, 2, none⟩ (.int .u64 t.num)).setCell ⟨G, 3, none⟩ (.int .i64 t.at')) :=
  ⟨by rw [hG]; exact below_set4 hbel (Nat.le_refl _), rfl⟩
theorem extract_eq (s : ByteArray) (p e : Nat) : s.extract p e = ⟨(((bs s).drop p).take (e - p)).toArray⟩ := by
  apply ByteArray.ext
  apply Array.ext'
  rw [ByteArray.data_extract, Array.toList_extract]
  simp [bs, List.extract]
set_option maxRecDepth 100000 in
theorem word_calls (s : ByteArray) (p : Nat) (kind : Int) (w : World) (hp : p ≤ s.size) (hs : s.size ≤ 1000000) :
    Calls Tryd.prog 30 #[.string s, .int .i64 p, .int .i64 kind] w (NxRet w (wordN kind ((bs s).drop p) p)) := by
  obtain ⟨G, hG⟩ : ∃ G, w.heap.size = G := ⟨_, rfl⟩
  have HG := Lib.hid hG
  have HX : Hid (zbox (w.alloc (.cells #[.int .i64 0, .string ⟨#[]⟩, .int .u64 0, .int .i64 0] 31)) G) := Lib.hid (by rw [← hG]; exact zbox_new w)
  have BX : Hid (Below G w (w.alloc (.cells #[.int .i64 0, .string ⟨#[]⟩, .int .u64 0, .int .i64 0] 31))) := Lib.hid ((Below.refl G w).alloc (by omega) _)
  have cw := fun W => wordEnd_calls s p W hp hs
  have WL : wordM ((bs s).drop p) ≤ s.size - p := by
    have h1 : wordM ((bs s).drop p) ≤ ((bs s).drop p).length := by unfold wordM; exact (List.takeWhile_sublist _).length_le
    rw [List.length_drop, bs_len] at h1; exact h1
  have TX : Hid (s.extract p (p + wordM ((bs s).drop p)) = ⟨(((bs s).drop p).take (wordM ((bs s).drop p))).toArray⟩) := Lib.hid (by rw [extract_eq, Nat.add_sub_cancel_left])
  have DF : Hid (wordN kind ((bs s).drop p) p = if 40 < wordM ((bs s).drop p) then .no 3 p else .ok ⟨kind, ⟨(((bs s).drop p).take (wordM ((bs s).drop p))).toArray⟩, 0, p⟩ (p + wordM ((bs s).drop p))) := Lib.hid rfl
  generalize (⟨(((bs s).drop p).take (wordM ((bs s).drop p))).toArray⟩ : ByteArray) = tx at *
  generalize wordM ((bs s).drop p) = m at *
  obtain ⟨E, hE⟩ : ∃ E, p + m = E := ⟨_, rfl⟩
  rw [hE] at TX DF
  have cw2 : ∀ W, Calls Tryd.prog 25 #[.string s, .int .i64 p] W fun e w' => e = .returned (.int .i64 (E : Int)) ∧ W = w' := fun W => by rw [← hE]; exact cw W
  have hE1 : p ≤ E := by omega
  have hE2 : E ≤ s.size := by omega
  have TXo := TX.out
  clear cw
  by_cases h40 : 40 < m
  · have t1 : decide ((40 : Int) < (E : Int) - (p : Int)) = true := decide_eq_true (by omega)
    rw [if_pos h40] at DF
    clear hE h40 WL TXo
    go_enter Tryd.func30, Tryd.ntmps30
    go_wp2_with fail
    generalize World.alloc w _ = W at *
    refine (cw2 W).mono ?_
    rintro e w' ⟨rfl, rfl⟩
    clear cw2
    go_wp2_with fail
    refine (fail_is _ _ _ _).mono ?_
    rintro e w1 ⟨hb1, b1, txt1, rfl, hle1, hf1⟩
    obtain ⟨HZ1, HR1⟩ := box_no HG.out HX.out BX.out hb1 hle1 hf1
    have R1 := Lib.hid HR1
    have E1 := Lib.hid (heap_set4 (y0 := .int .i64 0) (y1 := .string ⟨#[]⟩) (y2 := .int .u64 0) (y3 := .int .i64 0) HZ1)
    obtain ⟨c0, c1, c2, c3, cf⟩ := cells4 HZ1
    clear hb1 hle1 hf1 HZ1 HR1
    go_wp2_with fail
    obtain ⟨d0, d1, d2, d3, _⟩ := cells4 E1.out
    refine bodyPost_ret (v := .tuple #[.agg #[.int .i64 0, .string ⟨#[]⟩, .int .u64 0, .int .i64 0], .int .i64 0, .iface 70 (.pointer (some ⟨b1, 0, none⟩))]) ?_ rfl (by rw [DF.out]; exact R1.out)
    simp [results, Tryd.results30, go_sem, d0, d1, d2, d3]
  · have t1 : decide ((40 : Int) < (E : Int) - (p : Int)) = false := decide_eq_false (by omega)
    rw [if_neg h40] at DF
    clear hE h40 WL
    go_enter Tryd.func30, Tryd.ntmps30
    go_wp2_with fail
    generalize World.alloc w _ = W at *
    refine (cw2 W).mono ?_
    rintro e w' ⟨rfl, rfl⟩
    clear cw2
    obtain ⟨c0, c1, c2, c3, cf⟩ := cells4 HX.out
    have R1 := Lib.hid (box_ok HG.out HX.out BX.out ⟨kind, tx, 0, (p : Int)⟩ E)
    have E1 := Lib.hid (heap_set4 (y0 := .int .i64 kind) (y1 := .string tx) (y2 := .int .u64 0) (y3 := .int .i64 (p : Int)) HX.out)
    go_wp2_with fail
    obtain ⟨d0, d1, d2, d3, _⟩ := cells4 E1.out
    refine bodyPost_ret (v := .tuple #[.agg #[.int .i64 kind, .string tx, .int .u64 0, .int .i64 (p : Int)], .int .i64 E, .nilIface]) ?_ rfl (by rw [DF.out]; exact R1.out)
    simp [results, Tryd.results30, go_sem, d0, d1, d2, d3]
end Go.Proofs.YtecijhaclbbccaaDoor
