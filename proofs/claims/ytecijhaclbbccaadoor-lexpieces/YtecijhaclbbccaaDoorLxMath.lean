/- Mathematics of the lexer: tokens of a text, as a function of its bytes. -/
import Derived.IntWalk
namespace Go.Proofs.YtecijhaclbbccaaDoor
set_option linter.unusedVariables false
set_option linter.unusedSimpArgs false

abbrev Bytes := List UInt8
def lowB (b : Nat) : Bool := decide (97 ≤ b) && decide (b ≤ 122)
def upB (b : Nat) : Bool := decide (65 ≤ b) && decide (b ≤ 90)
def digB (b : Nat) : Bool := decide (48 ≤ b) && decide (b ≤ 57)
def wordB (b : Nat) : Bool := lowB b || upB b || digB b || decide (b = 95)
def blankB (b : Nat) : Bool := decide (b = 32) || decide (b = 9) || decide (b = 13) || decide (b = 10)
/-- Blanks and comments at the front of a text. -/
def skipM : Bool → Bytes → Nat
  | _, [] => 0
  | false, b :: r => if b.toNat = 35 then 1 + skipM true r else if blankB b.toNat = true then 1 + skipM false r else 0
  | true, b :: r => if b.toNat = 10 then 1 + skipM false r else 1 + skipM true r
def wordM (r : Bytes) : Nat := (r.takeWhile fun b => wordB b.toNat).length
def lineM (r : Bytes) : Nat := (r.takeWhile fun b => decide (b.toNat ≠ 10)).length
/-- A token: kind, text, number, place. -/
structure Tk where
  kind : Int
  text : ByteArray
  num : Int
  at' : Int
/-- A token and the place behind it, or a fault's tag and place. -/
inductive Nx where
  | ok (t : Tk) (e : Nat)
  | no (tag : Int) (p : Nat)
def wordN (kind : Int) (r : Bytes) (p : Nat) : Nx := if 40 < wordM r then .no 3 p else .ok ⟨kind, ⟨(r.take (wordM r)).toArray⟩, 0, p⟩ (p + wordM r)
/-- The number of digits, and how many; none: above 2^63. -/
def numGo : Bytes → Nat → Nat → Option (Nat × Nat)
  | [], num, k => some (num, k)
  | b :: r, num, k => if digB b.toNat = true then (if (9223372036854775808 - (b.toNat - 48)) / 10 < num then none else numGo r (num * 10 + (b.toNat - 48)) (k + 1)) else some (num, k)
def numN (r : Bytes) (p : Nat) : Nx := match numGo r 0 0 with
  | none => .no 1 p
  | some (n, k) => .ok ⟨3, ⟨#[]⟩, n, p⟩ (p + k)
/-- The bytes of a string behind its quote. -/
def strGo (p : Nat) : Bytes → Nat → Bytes → Nx
  | [], i, acc => .no 1 i
  | b :: r, i, acc =>
    if b.toNat = 34 then (if 40 < acc.length then .no 3 p else .ok ⟨4, ⟨acc.toArray⟩, 0, p⟩ (i + 1))
    else if b.toNat < 32 then .no 1 i
    else if b.toNat = 92 then (match r with
      | [] => .no 1 i
      | c :: r' => if c.toNat = 110 then strGo p r' (i + 2) (acc ++ [10]) else if c.toNat = 34 ∨ c.toNat = 92 then strGo p r' (i + 2) (acc ++ [c]) else .no 1 i)
    else strGo p r (i + 1) (acc ++ [b])
def signs : List Bytes := [[58, 45], [58, 61], [33, 61], [60, 61], [62, 61], [40], [41], [44], [46], [61], [60], [62], [43], [45], [42], [47], [37], [64]]
def signGo (r : Bytes) (p : Nat) : List Bytes → Nx
  | [] => .no 1 p
  | x :: l => if x.isPrefixOf r = true then .ok ⟨5, ⟨x.toArray⟩, 0, p⟩ (p + x.length) else signGo r p l
def nextM (r : Bytes) (p : Nat) : Nx := match r with
  | [] => .no 1 p
  | b :: r' => if lowB b.toNat = true then wordN 1 r p else if upB b.toNat = true then wordN 2 r p else if digB b.toNat = true then numN r p else if b.toNat = 34 then strGo p r' (p + 1) [] else signGo r p signs
/-- The tokens of a text, or the first fault. -/
inductive Rs where
  | ok (l : List Tk)
  | no (tag : Int) (p : Nat)
def Rs.cons (t : Tk) : Rs → Rs
  | .ok l => .ok (t :: l)
  | .no a b => .no a b
def Rs.pre (acc : List Tk) : Rs → Rs
  | .ok l => .ok (acc ++ l)
  | .no a b => .no a b
def allGo (l : Bytes) : Nat → Nat → Rs
  | 0, p => .ok [⟨0, ⟨#[]⟩, 0, l.length⟩]
  | f + 1, p => if p < l.length then (match nextM (l.drop p) p with
      | .no a b => .no a b
      | .ok t e => (allGo l f (e + skipM false (l.drop e))).cons t) else .ok [⟨0, ⟨#[]⟩, 0, l.length⟩]
def allM (l : Bytes) : Rs := allGo l (l.length + 1) (skipM false l)
example : allM [112, 40, 88, 44, 34, 97, 34, 41, 46] = .ok [⟨1, ⟨#[112]⟩, 0, 0⟩, ⟨5, ⟨#[40]⟩, 0, 1⟩, ⟨2, ⟨#[88]⟩, 0, 2⟩, ⟨5, ⟨#[44]⟩, 0, 3⟩, ⟨4, ⟨#[97]⟩, 0, 4⟩, ⟨5, ⟨#[41]⟩, 0, 7⟩, ⟨5, ⟨#[46]⟩, 0, 8⟩, ⟨0, ⟨#[]⟩, 0, 9⟩] := by rfl
end Go.Proofs.YtecijhaclbbccaaDoor
