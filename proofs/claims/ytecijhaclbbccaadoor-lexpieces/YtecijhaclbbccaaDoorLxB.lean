/- What the lexer's functions that make a token hand back; fail. -/
import Derived.Test.YtecijhaclbbccaaDoorLxA
import Derived.Test.YtecijhaclbbccaaDoorFaultCore3
namespace Go.Proofs.YtecijhaclbbccaaDoor
open Go.RowKit
set_option linter.unusedVariables false
set_option linter.unusedSimpArgs false

def tkC (t : Tk) : Array Value := #[.int .i64 t.kind, .string t.text, .int .u64 t.num, .int .i64 t.at']
def zeroT : Tk := ⟨0, ⟨#[]⟩, 0, 0⟩
def NxRet (w : World) (x : Nx) (e : Ending) (w' : World) : Prop := Below w.heap.size w w' ∧ match x with
  | .ok t k => e = .returned (.tuple #[.agg (tkC t), .int .i64 (k : Int), .nilIface])
  | .no tag p => ∃ b txt, e = .returned (.tuple #[.agg (tkC zeroT), .int .i64 0, .iface 70 (.pointer (some ⟨b, 0, none⟩))]) ∧ w.heap.size ≤ b ∧ FaultAt w' b tag (p : Int) txt .nilIface
theorem heap_set4 {w : World} {g : Nat} {T : TypeId} {x0 x1 x2 x3 y0 y1 y2 y3 : Value} (h : w.heap[g]? = some (.cells #[x0, x1, x2, x3] T (0, 0))) :
    ((((w.setCell ⟨g, 0, none⟩ y0).setCell ⟨g, 1, none⟩ y1).setCell ⟨g, 2, none⟩ y2).setCell ⟨g, 3, none⟩ y3).heap[g]? = some (.cells #[y0, y1, y2, y3] T (0, 0)) := by
  simp [World.setCell, Array.getElem?_modify, h]
theorem below_set4 {B : Nat} {w w' : World} {g : Nat} {y0 y1 y2 y3 : Value} (h : Below B w w') (hg : B ≤ g) :
    Below B w ((((w'.setCell ⟨g, 0, none⟩ y0).setCell ⟨g, 1, none⟩ y1).setCell ⟨g, 2, none⟩ y2).setCell ⟨g, 3, none⟩ y3) :=
  (((h.setCell (p := ⟨g, 0, none⟩) hg _).setCell (p := ⟨g, 1, none⟩) hg _).setCell (p := ⟨g, 2, none⟩) hg _).setCell (p := ⟨g, 3, none⟩) hg _
theorem cells4 {w : World} {g : Nat} {a b c d : Value} {T : TypeId} (h : w.heap[g]? = some (.cells #[a, b, c, d] T (0, 0))) : w.cell? ⟨g, 0, none⟩ = some a ∧ w.cell? ⟨g, 1, none⟩ = some b ∧ w.cell? ⟨g, 2, none⟩ = some c ∧ w.cell? ⟨g, 3, none⟩ = some d ∧ ∀ i, w.frozen? ⟨g, i, none⟩ = false :=
  ⟨by simp [World.cell?, h], by simp [World.cell?, h], by simp [World.cell?, h], by simp [World.cell?, h], fun i => by simp [World.frozen?, h]⟩
theorem fault_set4 {w : World} {g b : Nat} {t a : Int} {s : ByteArray} {u y0 y1 y2 y3 : Value} (h : FaultAt w b t a s u) (hne : b ≠ g) : FaultAt ((((w.setCell ⟨g, 0, none⟩ y0).setCell ⟨g, 1, none⟩ y1).setCell ⟨g, 2, none⟩ y2).setCell ⟨g, 3, none⟩ y3) b t a s u := by
  have hb : ((((w.setCell ⟨g, 0, none⟩ y0).setCell ⟨g, 1, none⟩ y1).setCell ⟨g, 2, none⟩ y2).setCell ⟨g, 3, none⟩ y3).heap[b]? = w.heap[b]? := by
    rw [Below.heap_setCell _ _ _ _ (fun e => hne e), Below.heap_setCell _ _ _ _ (fun e => hne e), Below.heap_setCell _ _ _ _ (fun e => hne e), Below.heap_setCell _ _ _ _ (fun e => hne e)]
  exact ⟨(World.cell?_of_block (a := ⟨b, 0, none⟩) hb).trans h.c0, (World.cell?_of_block (a := ⟨b, 1, none⟩) hb).trans h.c1, (World.cell?_of_block (a := ⟨b, 2, none⟩) hb).trans h.c2, (World.cell?_of_block (a := ⟨b, 3, none⟩) hb).trans h.c3⟩
set_option maxRecDepth 100000 in
theorem fail_calls (t : Int) (p : Nat) (x : ByteArray) (w : World) : Calls Tryd.prog 43 #[.int .i64 t, .int .i64 p, .string x] w (NxRet w (.no t p)) := by
  obtain ⟨G, hG⟩ : ∃ G, w.heap.size = G := ⟨_, rfl⟩
  have HG := Lib.hid hG
  go_enter Tryd.func43, Tryd.ntmps43
  go_wp2_with fail
  refine (new_calls t p x _).mono ?_
  rintro e w1 ⟨rfl, h1, h2⟩
  have s1 : (w.alloc (.cells #[.int .i64 0, .string ⟨#[]⟩, .int .u64 0, .int .i64 0] 31)).heap.size = G + 1 := by simp [hG]
  rw [s1] at h1 ⊢
  have HB : w1.heap[G]? = some (.cells #[.int .i64 0, .string ⟨#[]⟩, .int .u64 0, .int .i64 0] 31 (0, 0)) := by
    have h3 : Below (w.alloc (.cells #[.int .i64 0, .string ⟨#[]⟩, .int .u64 0, .int .i64 0] 31)).heap.size _ w1 := h2
    rw [h3.block G (by rw [s1]; omega), ← hG]
    exact heap_alloc_new w _
  have BE : Below G w w1 := ((Below.refl G w).alloc (by omega) _).trans (Below.mono h2 (by rw [s1]; omega))
  obtain ⟨c0, c1, c2, c3, cf⟩ := cells4 HB
  have E4 := Lib.hid (heap_set4 (y0 := .int .i64 0) (y1 := .string ⟨#[]⟩) (y2 := .int .u64 0) (y3 := .int .i64 0) HB)
  have B4 := Lib.hid (below_set4 (y0 := .int .i64 0) (y1 := .string ⟨#[]⟩) (y2 := .int .u64 0) (y3 := .int .i64 0) BE (Nat.le_refl _))
  have F4 := Lib.hid (fault_set4 (g := G) (y0 := .int .i64 0) (y1 := .string ⟨#[]⟩) (y2 := .int .u64 0) (y3 := .int .i64 0) h1 (by omega))
  clear h1 h2 HB BE s1
  go_wp2_with fail
  obtain ⟨d0, d1, d2, d3, _⟩ := cells4 E4.out
  refine bodyPost_ret (v := .tuple #[.agg (tkC zeroT), .int .i64 0, .iface 70 (.pointer (some ⟨G + 1, 0, none⟩))]) ?_ rfl ⟨by rw [HG.out]; exact B4.out, _, _, rfl, by omega, F4.out⟩
  simp [results, Tryd.results43, go_sem, d0, d1, d2, d3, tkC, zeroT]
end Go.Proofs.YtecijhaclbbccaaDoor
