/- Contracts of column.Where, Both, Gather: rows of integers in memory, and what is made of them. -/
import Derived.Test.YtplckcnmpnnkgaaDoorCol
namespace Go.Proofs.YtplckcnmpnnkgaaDoor
open Go.RowKit
set_option linter.unusedVariables false
set_option linter.unusedSimpArgs false

/-- The slice at address a reads as the numbers zs. -/
def Row (w : World) (a : Option Addr) (zs : List Int) : Prop :=
  zs = [] ∨ ∃ b off, a = some ⟨b, off, none⟩ ∧ b < w.heap.size ∧ ∀ i, i < zs.length → w.cell? ⟨b, off + i, none⟩ = some (.int .i64 (zs[i]?.getD 0))
/-- A call that returns a slice that reads as zs; nothing old has turned. -/
def RowRet (w : World) (zs : List Int) (e : Ending) (w' : World) : Prop := ∃ a cap, e = .returned (.slice a zs.length cap) ∧ Row w' a zs ∧ Below w.heap.size w w'

theorem Row.nil (w : World) (a : Option Addr) : Row w a [] := .inl rfl
theorem Row.below {w w' : World} {a : Option Addr} {zs : List Int} (h : Row w a zs) (hb : Below w.heap.size w w') : Row w' a zs := by
  rcases h with rfl | ⟨b, off, rfl, hlt, hc⟩
  · exact .inl rfl
  · exact .inr ⟨b, off, rfl, Nat.lt_of_lt_of_le hlt hb.size, fun i hi => (hb.cell (p := ⟨b, off + i, none⟩) hlt).trans (hc i hi)⟩
theorem Row.belowB {w w' : World} {B : Nat} {a : Option Addr} {zs : List Int} (h : Row w a zs) (hB : w.heap.size = B) (hb : Below B w w') : Row w' a zs := by
  subst hB; exact h.below hb
theorem Row.alloc {w : World} {a : Option Addr} {zs : List Int} (h : Row w a zs) (o : Obj) : Row (w.alloc o) a zs := h.below ((Below.refl _ _).alloc (Nat.le_refl _) _)
theorem Row.drewN {w : World} {a : Option Addr} {zs : List Int} (h : Row w a zs) (n : Nat) : Row (w.drewN n) a zs := h.below (below_drewN (Below.refl _ _) n)
theorem Row.at {w : World} {a : Option Addr} {zs : List Int} (h : Row w a zs) {k : Nat} (hk : k < zs.length) :
    ∃ b off, a = some ⟨b, off, none⟩ ∧ b < w.heap.size ∧ w.cell? ⟨b, off + k, none⟩ = some (.int .i64 (zs[k]?.getD 0)) := by
  rcases h with rfl | ⟨b, off, rfl, hlt, hc⟩
  · simp at hk
  · exact ⟨b, off, rfl, hlt, hc k hk⟩

/-- A row of the call's own that holds the integers zs reads as zs. -/
theorem row_of_owns {w : World} {base : Nat} {t : TypeId} {v : Value} {n : Nat} {zs : List Int} (h : w.ownsRow base t 1 v n (zs.map (Value.int .i64))) : ∃ a cap, v = .slice a zs.length cap ∧ Row w a zs := by
  obtain ⟨hl, h | ⟨g, cap, cur, rfl, hb, hh, hn, hm, hcs, ht⟩⟩ := h
  · obtain ⟨rfl, rfl⟩ := h
    obtain rfl : zs = [] := by simpa using hl
    exact ⟨none, 0, rfl, .inl rfl⟩
  · obtain rfl : n = zs.length := by simpa using hl.symm
    refine ⟨_, cap, rfl, .inr ⟨g, 0, rfl, (Array.getElem?_eq_some_iff.1 hh).1, fun i hi => ?_⟩⟩
    have hx : cur[i]? = some (.int .i64 (zs[i]?.getD 0)) := by
      have e1 : (cur.toList.take (zs.length * 1))[i]? = some (.int .i64 (zs[i]?.getD 0)) := by rw [ht]; simp [hi]
      rw [List.getElem?_take_of_lt (by omega)] at e1
      simpa using e1
    simp [World.cell?, hh, hx]
theorem owns_len {w : World} {base : Nat} {t : TypeId} {v : Value} {n : Nat} {zs : List Int} (h : w.ownsRow base t 1 v n (zs.map (Value.int .i64))) : n = zs.length := by
  have := h.1; simp at this; omega

theorem info3 : (Tryd.prog.info? 3).map (fun i => (i.zero, i.size, i.bytes)) = some (some (.int .i64 0), 1, 8) := by kernel_rfl
theorem info2 : (Tryd.prog.info? 2).map (fun i => (i.zero, i.size, i.bytes)) = some (some (.int .i64 0), 1, 8) := by kernel_rfl

/-- What an appended number leaves. -/
theorem app_step {w wr w1 : World} {B : Nat} {t : TypeId} {v v' : Value} {xs : List Int} {y : Int} (hB : B ≤ wr.heap.size)
    (hbel : Below B w wr) (hown : wr.ownsRow B t 1 v xs.length (xs.map (Value.int .i64)))
    (hown' : w1.ownsRow B t 1 v' (xs.length + 1) (xs.map (Value.int .i64) ++ [.int .i64 y])) (hgrow : (wr.alloc (.cells #[.int .i64 y] t)).grownBy w1 v.ownBlock) :
    w1.ownsRow B t 1 v' (xs ++ [y]).length ((xs ++ [y]).map (Value.int .i64)) ∧ Below B w w1 := by
  refine ⟨by rw [List.map_append, List.length_append]; exact hown', ?_⟩
  exact ((hbel.alloc hB _).grown hgrow (by simp; omega) (fun k hk => (hown.lt k hk).1))

set_option maxHeartbeats 1000000 in
theorem where_calls (o x : Int) (a : Option Addr) (cap : Nat) (zs : List Int) (w : World) (hR : Row w a zs) (hlen : zs.length ≤ 1000) :
    Calls Tryd.prog 13 #[.int .i64 o, .slice a zs.length cap, .int .i64 x] w (RowRet w (whereL o zs x)) := by
  obtain ⟨i0, hi, hz0, hz1, hz2⟩ := info_parts info3
  have I := Lib.hid hi
  have Z0 := Lib.hid hz0
  have Z1 := Lib.hid hz1
  have Z2 := Lib.hid hz2
  clear hi hz0 hz1 hz2
  obtain ⟨p, hp⟩ : ∃ p : Nat → Bool, p = fun i => holdsB o (zs[i]?.getD 0) x := ⟨_, rfl⟩
  have HP := Lib.hid hp
  clear hp
  have W : Hid (whereL o zs x = selTo p zs.length) := by rw [HP.out]; exact Lib.hid rfl
  obtain ⟨B, hB⟩ : ∃ B, w.heap.size = B := ⟨_, rfl⟩
  have HB := Lib.hid hB
  clear hB
  go_enter Tryd.func13, Tryd.ntmps13
  go_wp2_with fail
  go_loopw [7, 12] (fun v i wr => ∃ k : Nat, k ≤ zs.length ∧ i = .int .i64 k ∧ wr.ownsRow B 3 1 v (selTo p k).length ((selTo p k).map (Value.int .i64)) ∧ Below B w wr)
    (fun _ i _ => zs.length - (intOf i).toNat)
  case atStart => exact ⟨0, Nat.zero_le _, rfl, World.ownsRow_nil _ _ _ _, Below.refl _ _⟩
  case round =>
    obtain ⟨k, hk, rfl, hown, hbel⟩ := hrel
    have hBr : B ≤ wr.heap.size := by have := hbel.size; rw [HB.out] at this; exact this
    have hsl := selTo_le p k
    by_cases hlt : k < zs.length
    · obtain ⟨b, off, rfl, hb, hcell⟩ := (hR.belowB HB.out hbel).at hlt
      have HPk := Lib.hid (show p k = holdsB o (zs[k]?.getD 0) x by rw [HP.out])
      generalize zs[k]?.getD 0 = z at *
      by_cases hpk : p k = true
      · have S := Lib.hid (selTo_yes hpk)
        have hv : holdsB o z x = true := by rw [← HPk.out]; exact hpk
        clear hpk
        obtain ⟨xs, hxs⟩ : ∃ xs, selTo p k = xs := ⟨_, rfl⟩
        rw [hxs] at hown hsl
        have HX := Lib.hid hxs
        clear hxs
        go_wp2_with (first | (go_at_call 12; refine (holds_calls _ _ _ _).mono ?_; rintro e w' ⟨rfl, rfl⟩) | (at_builtin; refine wpList_append_own _ rfl _ _ 26 rfl B 3 i0 (.int .i64 0) 1 8 Tryd.underlying26 I.out Z0.out Z1.out Z2.out rfl (by decide) _ _ _ rfl (hown.alloc _) ⟨wr.heap.size, 0, none⟩ 1 1 [.int .i64 k] rfl rfl ?c1 ?c2 ?c3 ?c4 ?c5 ?_))
        case c1 =>
          intro j u hj
          match j, hj with
          | 0, hj => simp at hj; subst hj; simp [Addr.add]
        case c2 => intro u hu; simp at hu; subst hu; rfl
        case c3 => unfold maxLen; omega
        case c4 => omega
        case c5 => simp; omega
        intro v' w1 hown' hgrow _
        have R := app_step hBr hbel hown hown' hgrow
        clear hown' hgrow hown hcell
        go_wp2_with fail
        go_roundw
        case rel => exact ⟨k + 1, by omega, by go_num, by rw [S.out, HX.out]; exact R.1, R.2⟩
        case measure => simp [intOf]; omega
      · have hv : holdsB o z x = false := by rw [← HPk.out]; simpa using hpk
        have S := Lib.hid (selTo_no (show p k = false by simpa using hpk))
        clear hpk
        go_wp2_with (first | (go_at_call 12; refine (holds_calls _ _ _ _).mono ?_; rintro e w' ⟨rfl, rfl⟩))
        go_roundw
        case rel => exact ⟨k + 1, by omega, by go_num, by rw [S.out]; exact hown, hbel⟩
        case measure => simp [intOf]; omega
    · obtain rfl : k = zs.length := by omega
      obtain ⟨a1, c1, rfl, hrow⟩ := row_of_owns hown
      go_wp2_with fail
      go_ret
      exact ⟨a1, c1, by rw [W.out]; rfl, by rw [W.out]; exact hrow, by rw [HB.out]; exact hbel⟩
end Go.Proofs.YtplckcnmpnnkgaaDoor
