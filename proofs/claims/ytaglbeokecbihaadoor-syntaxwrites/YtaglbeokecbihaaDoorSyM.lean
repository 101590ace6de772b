/- The statements' head: the document's example. Written by mksym.py. -/
import Derived.Test.YtaglbeokecbihaaDoorSyL
namespace Go.Proofs.YtaglbeokecbihaaDoor
open Go.RowKit
set_option linter.unusedVariables false
set_option linter.unusedSimpArgs false

def tmX : Tm := ⟨0, ⟨#[88]⟩, 0⟩
def tmY : Tm := ⟨0, ⟨#[89]⟩, 0⟩
def tmZ : Tm := ⟨0, ⟨#[90]⟩, 0⟩
def tmN (n : Int) : Tm := ⟨1, ⟨#[]⟩, n⟩
def xh : X := .op 2 (.op 0 (.leaf tmZ) (.leaf (tmN 1))) (.leaf (tmN 2))
theorem ok_tm (t : Tm) (h : t = tmX ∨ t = tmY ∨ t = tmZ ∨ t = tmN 1 ∨ t = tmN 2) : TmOK t := by
  rcases h with rfl | rfl | rfl | rfl | rfl <;> exact ⟨by simp [tmX, tmY, tmZ, tmN], by simp [tmX, tmY, tmZ, tmN], by simp [tmX, tmY, tmZ, tmN], by decide⟩
theorem t_x : termT tmX = ⟨#[88]⟩ := by simp [termT, tmX]
theorem t_y : termT tmY = ⟨#[89]⟩ := by simp [termT, tmY]
theorem t_z : termT tmZ = ⟨#[90]⟩ := by simp [termT, tmZ]
theorem t_1 : termT (tmN 1) = ⟨#[49]⟩ := by
  have : itoaT 1 = ⟨#[49]⟩ := by decide +kernel
  simp [termT, tmN, this]
theorem t_2 : termT (tmN 2) = ⟨#[50]⟩ := by
  have : itoaT 2 = ⟨#[50]⟩ := by decide +kernel
  simp [termT, tmN, this]
theorem xh_B : exprB xh = [40, 90, 32, 43, 32, 49, 41, 32, 42, 32, 50] := by
  have h1 : wrapB 2 0 (.op 0 (.leaf tmZ) (.leaf (tmN 1))) = true := by decide
  simp only [xh, exprB, t_z, t_1, t_2, h1]
  rfl
theorem head_B : ruleB 2 ⟨#[112]⟩ [tmX, tmY] [.pos ⟨#[113]⟩ [tmX, tmZ], .letx ⟨#[89]⟩ xh] = [112, 40, 88, 44, 115, 117, 109, 60, 89, 62, 41, 32, 58, 45, 32, 113, 40, 88, 44, 90, 41, 44, 32, 89, 32, 58, 61, 32, 40, 90, 32, 43, 32, 49, 41, 32, 42, 32, 50, 46] := by
  simp only [ruleB, atomB, outA, outP, List.length_cons, List.length_nil, itemT, tmAt, ptAt, partT, atomT, letT, exprT, xh_B, List.getElem?_cons_zero, List.getElem?_cons_succ, Option.getD_some, t_x, t_y, t_z]
  rfl
end Go.Proofs.YtaglbeokecbihaaDoor
