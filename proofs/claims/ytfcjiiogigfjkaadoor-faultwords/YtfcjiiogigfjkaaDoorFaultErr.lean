/- Package fault: the text of a tag, of a fault, of a chain of faults. -/
import Derived.Test.YtfcjiiogigfjkaaDoorFaultCore2
import Derived.Test.YtfcjiiogigfjkaaDoorShelf
import Derived.Lib.AppendIntMem
import Derived.Lib.ItoaLen
namespace Go.Proofs.YtfcjiiogigfjkaaDoor
open Go.RowKit Go.Extern.Stop Go.Stop Go.Extern
set_option linter.unusedVariables false

def nameBytes : List (List UInt8) := [[110, 111, 110, 101], [115, 121, 110, 116, 97, 120], [100, 101, 101, 112], [109, 97, 110, 121], [97, 114, 105, 116, 121], [116, 121, 112, 101], [117, 110, 115, 97, 102, 101], [99, 121, 99, 108, 101], [97, 100, 109, 105, 116], [117, 110, 107, 110, 111, 119, 110], [97, 114, 105, 116, 104], [102, 117, 101, 108], [114, 111, 119, 115], [99, 111, 109, 109, 97, 110, 100]]
def tagText (t : Int) : List UInt8 := if 0 ≤ t ∧ t < 14 then nameBytes[t.toNat]?.getD [] else [116, 97, 103, 32] ++ Lib.itoa t

/-- What the walks ask of the package-level variables. -/
structure FW (w : World) : Prop where
  err : ErrType w
  names : ∀ i, i < 14 → w.cell? ⟨0, i, none⟩ = some (.string ⟨(nameBytes[i]?.getD []).toArray⟩)
  tab : Lib.TabIs Tryd.prog w "internal/strconv.uint64pow10" .u64 Lib.pow10Tab
theorem pow_global : Tryd.prog.globalNamed "internal/strconv.uint64pow10" = some 3 := by kernel_rfl
theorem FW.ext {w w' : World} (h : FW w) (k : Ext w w') : FW w' :=
  ⟨h.err.ext k, fun i hi => by rw [k.cell (p := ⟨0, i, none⟩) (lt_of_cell (h.names i hi))]; exact h.names i hi, by
    have hlt : 3 < w.heap.size := by have := h.tab.cell pow_global 0 (by decide); exact lt_of_cell this
    exact var?_below k pow_global hlt h.tab⟩

theorem itoa_calls (n : Int) (w : World) (h : FW w) (h0 : -9223372036854775808 ≤ n) (h1 : n ≤ 9223372036854775807) :
    Calls Tryd.prog 36 #[.int .i64 n] w fun e w' => e = .returned (.string ⟨(Lib.itoa n).toArray⟩) ∧ Ext w w' :=
  (Tryd.strconv_Itoa n h0 h1 w h.tab).mono fun e w' ⟨he, k, os, hw⟩ => ⟨he, hw ▸ Lib.below_grow _ w (Nat.le_refl _) k os⟩

theorem ret_bytes {s t : ByteArray} (h : s = t) : Ending.returned (.string s) = .returned (.string t) := by rw [h]
theorem tagText_length (t : Int) (h0 : -9223372036854775808 ≤ t) (h1 : t ≤ 9223372036854775807) : (tagText t).length ≤ 25 := by
  unfold tagText
  split
  · have hk : t.toNat < 14 := by omega
    have : ∀ i, i < 14 → (nameBytes[i]?.getD []).length ≤ 25 := by decide
    exact this _ hk
  · have := Lib.itoa_length_le t h0 h1
    simp; omega

theorem tagerr_calls (t : Int) (w : World) (h : FW w) (h0 : -9223372036854775808 ≤ t) (h1 : t ≤ 9223372036854775807) :
    Calls Tryd.prog 15 #[.int .i64 t] w fun e w' => e = .returned (.string ⟨(tagText t).toArray⟩) ∧ Ext w w' := by
  by_cases hin : 0 ≤ t ∧ t < 14
  · obtain ⟨k0, k1⟩ := hin
    have hc := h.names t.toNat (by omega)
    have T := Lib.hid (show tagText t = nameBytes[t.toNat]?.getD [] from if_pos ⟨k0, k1⟩)
    generalize nameBytes[t.toNat]?.getD [] = nb at *
    go_enter Tryd.func15, Tryd.ntmps15
    go_wp2_with fail
    go_ret
    exact ⟨by rw [T.out]; rfl, Ext.refl _⟩
  · have hl := Lib.itoa_length_le t h0 h1
    have T := Lib.hid (show tagText t = [116, 97, 103, 32] ++ Lib.itoa t from if_neg hin)
    by_cases k0 : t < 0
    · clear hin
      go_enter Tryd.func15, Tryd.ntmps15
      go_wp2_with fail
      refine (itoa_calls t _ h h0 h1).mono ?_
      rintro e w1 ⟨rfl, hx⟩
      have H := Lib.hid hx
      clear hx
      go_wp2_with fail
      go_ret
      exact ⟨ret_bytes (by rw [T.out]; exact ByteArray.mk_append_mk [116, 97, 103, 32] _), H.out⟩
    · have k1 : 14 ≤ t := by omega
      clear hin
      go_enter Tryd.func15, Tryd.ntmps15
      go_wp2_with fail
      refine (itoa_calls t _ h h0 h1).mono ?_
      rintro e w1 ⟨rfl, hx⟩
      have H := Lib.hid hx
      clear hx
      go_wp2_with fail
      go_ret
      exact ⟨ret_bytes (by rw [T.out]; exact ByteArray.mk_append_mk [116, 97, 103, 32] _), H.out⟩

/-- A fault's own text. -/
def layerText (x : Int × Int × ByteArray) : List UInt8 := tagText x.1 ++ [32, 97, 116, 32] ++ Lib.itoa x.2.1 ++ (if x.2.2.data.toList = [] then [] else [32, 40] ++ x.2.2.data.toList ++ [41])
/-- The text of a chain. -/
def errText : List (Int × Int × ByteArray) → List UInt8
  | [] => []
  | [x] => layerText x
  | x :: y :: l => layerText x ++ [58, 32] ++ errText (y :: l)

abbrev IsB (B b : Nat) (l : List UInt8) (w : World) : Prop := Lib.IsBuilderF 139 5 B b (Lib.byteCells l) w
theorem isB_ext {B b : Nat} {l : List UInt8} {w w' : World} (h : IsB B b l w) (k : Ext w w') : IsB B b l w' := by
  rcases h with ⟨hB, v, hh, hown, hne⟩ | ⟨hB, v, hh, hown, hne⟩
  all_goals
    have hb : b < w.heap.size := by
      rcases Nat.lt_or_ge b w.heap.size with h' | h'
      · exact h'
      · simp [Array.getElem?_eq_none h'] at hh
    have hown' : w'.ownsRowF B 5 1 v (Lib.byteCells l).length (Lib.byteCells l) := by
      obtain ⟨hl, ho⟩ := hown
      refine ⟨hl, ?_⟩
      rcases ho with ho | ⟨g, cap, cur, fz, hv, hg, hgh, rest⟩
      · exact .inl ho
      · refine .inr ⟨g, cap, cur, fz, hv, hg, ?_, rest⟩
        have hgl : g < w.heap.size := by
          rcases Nat.lt_or_ge g w.heap.size with h' | h'
          · exact h'
          · simp [Array.getElem?_eq_none h'] at hgh
        rw [k.block g hgl]; exact hgh
    first
    | exact .inl ⟨hB, v, by rw [k.block b hb]; exact hh, hown', hne⟩
    | exact .inr ⟨hB, v, by rw [k.block b hb]; exact hh, hown', hne⟩

theorem strCells_mk (l : List UInt8) : Lib.strCells ⟨l.toArray⟩ = Lib.byteCells l := by simp [Lib.strCells, Lib.byteCells]
end Go.Proofs.YtfcjiiogigfjkaaDoor
