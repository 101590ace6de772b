/- Rows of numbers in memory. -/
import Derived.Test.YtfpocoaddmgakaaRows
import Derived.WalkKit
import Derived.WalkSpells
import Derived.WalkLawsBesides
import Derived.Lib.Hide
import Derived.BigQuiet
import Derived.BigRegion
import Derived.Deep.QuietTactic
import Derived.Deep.RegionHeld3
import Derived.StillTailTactics
import Derived.Deep.AppendLies
import Derived.Deep.DrawnRows
import Derived.Maps.AppendAt
namespace Go.Proofs.Ytfpocoaddmgakaa
open Go.RowKit
set_option linter.unusedVariables false
set_option linter.unusedSimpArgs false

/-- The slice at address a reads as the numbers zs. -/
def Row (w : World) (a : Option Addr) (zs : List Int) : Prop :=
  zs = [] ∨ ∃ b off, a = some ⟨b, off, none⟩ ∧ b < w.heap.size ∧ ∀ i, i < zs.length → w.cell? ⟨b, off + i, none⟩ = some (.int .i64 (zs[i]?.getD 0))
/-- A call that returns a slice that reads as zs; nothing old has turned. -/
def RowRet (w : World) (zs : List Int) (e : Ending) (w' : World) : Prop := ∃ a cap, e = .returned (.slice a zs.length cap) ∧ Row w' a zs ∧ Below w.heap.size w w'

theorem Row.nil (w : World) (a : Option Addr) : Row w a [] := .inl rfl
theorem Row.below {w w' : World} {a : Option Addr} {zs : List Int} (h : Row w a zs) (hb : Below w.heap.size w w') : Row w' a zs := by
  rcases h with rfl | ⟨b, off, rfl, hlt, hc⟩
  · exact .inl rfl
  · exact .inr ⟨b, off, rfl, Nat.lt_of_lt_of_le hlt hb.size, fun i hi => (hb.cell (p := ⟨b, off + i, none⟩) hlt).trans (hc i hi)⟩
theorem Row.belowB {w w' : World} {B : Nat} {a : Option Addr} {zs : List Int} (h : Row w a zs) (hB : w.heap.size = B) (hb : Below B w w') : Row w' a zs := by
  subst hB; exact h.below hb
theorem Row.alloc {w : World} {a : Option Addr} {zs : List Int} (h : Row w a zs) (o : Obj) : Row (w.alloc o) a zs := h.below ((Below.refl _ _).alloc (Nat.le_refl _) _)
theorem Row.drewN {w : World} {a : Option Addr} {zs : List Int} (h : Row w a zs) (n : Nat) : Row (w.drewN n) a zs := h.below (below_drewN (Below.refl _ _) n)
theorem Row.at {w : World} {a : Option Addr} {zs : List Int} (h : Row w a zs) {k : Nat} (hk : k < zs.length) :
    ∃ b off, a = some ⟨b, off, none⟩ ∧ b < w.heap.size ∧ w.cell? ⟨b, off + k, none⟩ = some (.int .i64 (zs[k]?.getD 0)) := by
  rcases h with rfl | ⟨b, off, rfl, hlt, hc⟩
  · simp at hk
  · exact ⟨b, off, rfl, hlt, hc k hk⟩

/-- A row of the call's own that holds the integers zs reads as zs. -/
theorem row_of_owns {w : World} {base : Nat} {t : TypeId} {v : Value} {n : Nat} {zs : List Int} (h : w.ownsRow base t 1 v n (zs.map (Value.int .i64))) : ∃ a cap, v = .slice a zs.length cap ∧ Row w a zs := by
  obtain ⟨hl, h | ⟨g, cap, cur, rfl, hb, hh, hn, hm, hcs, ht⟩⟩ := h
  · obtain ⟨rfl, rfl⟩ := h
    obtain rfl : zs = [] := by simpa using hl
    exact ⟨none, 0, rfl, .inl rfl⟩
  · obtain rfl : n = zs.length := by simpa using hl.symm
    refine ⟨_, cap, rfl, .inr ⟨g, 0, rfl, (Array.getElem?_eq_some_iff.1 hh).1, fun i hi => ?_⟩⟩
    have hx : cur[i]? = some (.int .i64 (zs[i]?.getD 0)) := by
      have e1 : (cur.toList.take (zs.length * 1))[i]? = some (.int .i64 (zs[i]?.getD 0)) := by rw [ht]; simp [hi]
      rw [List.getElem?_take_of_lt (by omega)] at e1
      simpa using e1
    simp [World.cell?, hh, hx]
theorem owns_len {w : World} {base : Nat} {t : TypeId} {v : Value} {n : Nat} {zs : List Int} (h : w.ownsRow base t 1 v n (zs.map (Value.int .i64))) : n = zs.length := by
  have := h.1; simp at this; omega

theorem info3 : (Try.prog.info? 3).map (fun i => (i.zero, i.size, i.bytes)) = some (some (.int .i64 0), 1, 8) := by kernel_rfl
theorem info2 : (Try.prog.info? 2).map (fun i => (i.zero, i.size, i.bytes)) = some (some (.int .i64 0), 1, 8) := by kernel_rfl

/-- What an appended number leaves. -/
theorem app_step {w wr w1 : World} {B : Nat} {t : TypeId} {v v' : Value} {xs : List Int} {y : Int} (hB : B ≤ wr.heap.size)
    (hbel : Below B w wr) (hown : wr.ownsRow B t 1 v xs.length (xs.map (Value.int .i64)))
    (hown' : w1.ownsRow B t 1 v' (xs.length + 1) (xs.map (Value.int .i64) ++ [.int .i64 y])) (hgrow : (wr.alloc (.cells #[.int .i64 y] t)).grownBy w1 v.ownBlock) :
    w1.ownsRow B t 1 v' (xs ++ [y]).length ((xs ++ [y]).map (Value.int .i64)) ∧ Below B w w1 := by
  refine ⟨by rw [List.map_append, List.length_append]; exact hown', ?_⟩
  exact ((hbel.alloc hB _).grown hgrow (by simp; omega) (fun k hk => (hown.lt k hk).1))

end Go.Proofs.Ytfpocoaddmgakaa
