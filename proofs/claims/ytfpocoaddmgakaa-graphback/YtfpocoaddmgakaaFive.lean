/- A region that makes four arrays and a box in any order. -/
import Derived.Test.YtfpocoaddmgakaaGs6
import Derived.Deep.OwnRows
namespace Go.Proofs.Ytfpocoaddmgakaa
open Go.RowKit
set_option linter.unusedVariables false
set_option linter.unusedSimpArgs false

/-- One of the five: was it made, at which block. -/
abbrev Mk := Bool × Nat
def Mk.ok (N : Nat) (o : Obj) (w : World) (m : Mk) : Prop := m.1 = true → N ≤ m.2 ∧ m.2 < w.heap.size ∧ w.heap[m.2]? = some o
theorem Mk.ok.alloc {N : Nat} {o o' : Obj} {w : World} {m : Mk} (h : Mk.ok N o w m) : Mk.ok N o (w.alloc o') m := fun e => by
  obtain ⟨h1, h2, h3⟩ := h e
  exact ⟨h1, by simp; omega, (heap_alloc_old w o' h2).trans h3⟩
theorem Mk.ok.new {N : Nat} {o : Obj} {w : World} (hN : N ≤ w.heap.size) : Mk.ok N o (w.alloc o) (true, w.heap.size) := fun _ => ⟨hN, by simp, heap_alloc_new w o⟩
def Mk.off (a b : Mk) : Prop := a.1 = true → b.1 = true → a.2 ≠ b.2
theorem Mk.off.new {N : Nat} {o : Obj} {w : World} {m : Mk} (h : Mk.ok N o w m) : Mk.off (true, w.heap.size) m := fun _ e => by
  have := (h e).2.1; show w.heap.size ≠ m.2; omega
theorem Mk.off.symm {a b : Mk} (h : Mk.off a b) : Mk.off b a := fun e1 e2 e => h e2 e1 e.symm
theorem Mk.ok.fresh (N : Nat) (o : Obj) (w : World) (b : Nat) : Mk.ok N o w (false, b) := fun e => by cases e
theorem Mk.off.fresh (m : Mk) (b : Nat) : Mk.off (false, b) m := fun e => by cases e

/-- What was made so far: four arrays Z and a box Y. -/
structure Five (N : Nat) (Z Y : Obj) (w0 w : World) (a b c d y : Mk) : Prop where
  ka : a.ok N Z w
  kb : b.ok N Z w
  kc : c.ok N Z w
  kd : d.ok N Z w
  ky : y.ok N Y w
  ab : a.off b
  ac : a.off c
  ad : a.off d
  ay : a.off y
  bc : b.off c
  bd : b.off d
  bo : b.off y
  cd : c.off d
  cy : c.off y
  dy : d.off y
  be : Below N w0 w
  hN : N ≤ w.heap.size
def Mk.arr (n : Nat) (m : Mk) : Value := if m.1 then sl m.2 n else undef
def Mk.box (m : Mk) : Value := if m.1 then .pointer (some ⟨m.2, 0, Option.none⟩) else undef

theorem Five.put_a {N : Nat} {Z Y : Obj} {w0 w : World} {a b c d y : Mk} (h : Five N Z Y w0 w a b c d y) : Five N Z Y w0 (w.alloc Z) (true, w.heap.size) b c d y :=
  ⟨Mk.ok.new h.hN, h.kb.alloc, h.kc.alloc, h.kd.alloc, h.ky.alloc, Mk.off.new h.kb, Mk.off.new h.kc, Mk.off.new h.kd, Mk.off.new h.ky, h.bc, h.bd, h.bo, h.cd, h.cy, h.dy, h.be.alloc h.hN _, by have := h.hN; simp; omega⟩
theorem Five.put_b {N : Nat} {Z Y : Obj} {w0 w : World} {a b c d y : Mk} (h : Five N Z Y w0 w a b c d y) : Five N Z Y w0 (w.alloc Z) a (true, w.heap.size) c d y :=
  ⟨h.ka.alloc, Mk.ok.new h.hN, h.kc.alloc, h.kd.alloc, h.ky.alloc, (Mk.off.new h.ka).symm, h.ac, h.ad, h.ay, Mk.off.new h.kc, Mk.off.new h.kd, Mk.off.new h.ky, h.cd, h.cy, h.dy, h.be.alloc h.hN _, by have := h.hN; simp; omega⟩
theorem Five.put_c {N : Nat} {Z Y : Obj} {w0 w : World} {a b c d y : Mk} (h : Five N Z Y w0 w a b c d y) : Five N Z Y w0 (w.alloc Z) a b (true, w.heap.size) d y :=
  ⟨h.ka.alloc, h.kb.alloc, Mk.ok.new h.hN, h.kd.alloc, h.ky.alloc, h.ab, (Mk.off.new h.ka).symm, h.ad, h.ay, (Mk.off.new h.kb).symm, h.bd, h.bo, Mk.off.new h.kd, Mk.off.new h.ky, h.dy, h.be.alloc h.hN _, by have := h.hN; simp; omega⟩
theorem Five.put_d {N : Nat} {Z Y : Obj} {w0 w : World} {a b c d y : Mk} (h : Five N Z Y w0 w a b c d y) : Five N Z Y w0 (w.alloc Z) a b c (true, w.heap.size) y :=
  ⟨h.ka.alloc, h.kb.alloc, h.kc.alloc, Mk.ok.new h.hN, h.ky.alloc, h.ab, h.ac, (Mk.off.new h.ka).symm, h.ay, h.bc, (Mk.off.new h.kb).symm, h.bo, (Mk.off.new h.kc).symm, h.cy, Mk.off.new h.ky, h.be.alloc h.hN _, by have := h.hN; simp; omega⟩
theorem Five.put_y {N : Nat} {Z Y : Obj} {w0 w : World} {a b c d y : Mk} (h : Five N Z Y w0 w a b c d y) : Five N Z Y w0 (w.alloc Y) a b c d (true, w.heap.size) :=
  ⟨h.ka.alloc, h.kb.alloc, h.kc.alloc, h.kd.alloc, Mk.ok.new h.hN, h.ab, h.ac, h.ad, (Mk.off.new h.ka).symm, h.bc, h.bd, (Mk.off.new h.kb).symm, h.cd, (Mk.off.new h.kc).symm, (Mk.off.new h.kd).symm, h.be.alloc h.hN _, by have := h.hN; simp; omega⟩

def wait5 (a b c d y : Mk) : Nat := (if a.1 then 0 else 1) + (if b.1 then 0 else 1) + (if c.1 then 0 else 1) + (if d.1 then 0 else 1) + (if y.1 then 0 else 1)
/-- Orders of five makers are as good as one: the places 3, 6, 9, 12 make arrays, the place 14 the box. -/
theorem five_orders {P : Program} {md : Region.Mode} {ops : Array Oper} {Q : Exit → Act → World → Prop} (N n : Nat) (Z Y : Obj) (w0 : World) (A : Value → Value → Value → Value → Value → Act)
    (hr : ∀ a b c d y : Bool, (a && b && c && d) = false → Region.ready md ops #[true, true, true, a, true, true, b, true, true, c, true, true, d, false, y, false] = (if a then [] else [3]) ++ (if b then [] else [6]) ++ (if c then [] else [9]) ++ (if d then [] else [12]) ++ (if y then [] else [14]))
    (h3 : ∀ x1 x2 x3 x4 x5 w K, K (A (sl w.heap.size n) x2 x3 x4 x5) (w.alloc Z) → wpOp P ops Q 3 K (A x1 x2 x3 x4 x5) w)
    (h6 : ∀ x1 x2 x3 x4 x5 w K, K (A x1 (sl w.heap.size n) x3 x4 x5) (w.alloc Z) → wpOp P ops Q 6 K (A x1 x2 x3 x4 x5) w)
    (h9 : ∀ x1 x2 x3 x4 x5 w K, K (A x1 x2 (sl w.heap.size n) x4 x5) (w.alloc Z) → wpOp P ops Q 9 K (A x1 x2 x3 x4 x5) w)
    (h12 : ∀ x1 x2 x3 x4 x5 w K, K (A x1 x2 x3 (sl w.heap.size n) x5) (w.alloc Z) → wpOp P ops Q 12 K (A x1 x2 x3 x4 x5) w)
    (h14 : ∀ x1 x2 x3 x4 x5 w K, K (A x1 x2 x3 x4 (.pointer (some ⟨w.heap.size, 0, none⟩))) (w.alloc Y) → wpOp P ops Q 14 K (A x1 x2 x3 x4 x5) w)
    (hend : ∀ ba bb bc bd y w, Five N Z Y w0 w (true, ba) (true, bb) (true, bc) (true, bd) y → wpAny P md ops Q ((if y.1 then 0 else 1) + 2) #[true, true, true, true, true, true, true, true, true, true, true, true, true, false, y.1, false] (A (sl ba n) (sl bb n) (sl bc n) (sl bd n) y.box) w) :
    ∀ (k : Nat) (a b c d y : Mk) (w : World), wait5 a b c d y = k → Five N Z Y w0 w a b c d y → wpAny P md ops Q (k + 2) #[true, true, true, a.1, true, true, b.1, true, true, c.1, true, true, d.1, false, y.1, false] (A (a.arr n) (b.arr n) (c.arr n) (d.arr n) y.box) w := by
  intro k
  induction k with
  | zero =>
    rintro ⟨a, na⟩ ⟨b, nb⟩ ⟨c, nc⟩ ⟨d, nd⟩ ⟨y, ny⟩ w hk h
    simp only [wait5] at hk
    cases a
    · simp at hk
    cases b
    · simp at hk
    cases c
    · simp at hk
    cases d
    · simp at hk
    cases y
    · simp at hk
    exact hend na nb nc nd (true, ny) w h
  | succ k ih =>
    rintro ⟨a, na⟩ ⟨b, nb⟩ ⟨c, nc⟩ ⟨d, nd⟩ ⟨y, ny⟩ w hk h
    by_cases hall : (a && b && c && d) = true
    · simp only [Bool.and_eq_true] at hall
      obtain ⟨⟨⟨rfl, rfl⟩, rfl⟩, rfl⟩ := hall
      have := hend na nb nc nd (y, ny) w h
      cases y
      · simp [wait5] at hk
        subst hk
        exact this
      · simp [wait5] at hk
    · have hr2 := hr a b c d y (by simpa using hall)
      refine ⟨fun h0 => ?_, fun i hi => ?_⟩
      · rw [hr2] at h0
        cases a <;> cases b <;> cases c <;> cases d <;> simp at h0 hall
      · rw [hr2] at hi
        simp only [List.mem_append] at hi
        rcases hi with (((hi | hi) | hi) | hi) | hi
        · cases a
          · obtain rfl : i = 3 := by simpa using hi
            exact h3 _ _ _ _ _ _ _ (ih (true, w.heap.size) (b, nb) (c, nc) (d, nd) (y, ny) _ (by simp [wait5] at hk ⊢; omega) h.put_a)
          · simp at hi
        · cases b
          · obtain rfl : i = 6 := by simpa using hi
            exact h6 _ _ _ _ _ _ _ (ih (a, na) (true, w.heap.size) (c, nc) (d, nd) (y, ny) _ (by simp [wait5] at hk ⊢; omega) h.put_b)
          · simp at hi
        · cases c
          · obtain rfl : i = 9 := by simpa using hi
            exact h9 _ _ _ _ _ _ _ (ih (a, na) (b, nb) (true, w.heap.size) (d, nd) (y, ny) _ (by simp [wait5] at hk ⊢; omega) h.put_c)
          · simp at hi
        · cases d
          · obtain rfl : i = 12 := by simpa using hi
            exact h12 _ _ _ _ _ _ _ (ih (a, na) (b, nb) (c, nc) (true, w.heap.size) (y, ny) _ (by simp [wait5] at hk ⊢; omega) h.put_d)
          · simp at hi
        · cases y
          · obtain rfl : i = 14 := by simpa using hi
            exact h14 _ _ _ _ _ _ _ (ih (a, na) (b, nb) (c, nc) (d, nd) (true, w.heap.size) _ (by simp [wait5] at hk ⊢; omega) h.put_y)
          · simp at hi
end Go.Proofs.Ytfpocoaddmgakaa
