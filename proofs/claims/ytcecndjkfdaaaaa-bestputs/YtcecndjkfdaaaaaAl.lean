/- The iterator of a relation's rows. -/
import Derived.Test.YtcecndjkfdaaaaaRf
namespace Go.Proofs.Ytcecndjkfdaaaaa
open Go.RowKit Go.Shelf
set_option linter.unusedVariables false
set_option linter.unusedSimpArgs false
attribute [local go_sem] Oper.semAt_some

/-- What is known of a row when it is handed over. -/
def RX (rs : List (List Int)) (pre : List RV) (x : RV) (W : World) : Prop := x.2.1 = rowAt rs pre.length ∧ Row W x.1 x.2.1 ∧ x.2.1.length ≤ x.2.2 ∧ pre.length < rs.length
set_option maxRecDepth 100000 in
set_option maxHeartbeats 2000000 in
theorem all1_in (n l Bp : Nat) (p : Option Addr) (wd : Nat) (rs : List (List Int)) (J : List RV → World → Prop) (hwd : wd ≤ 1000) (hrs : rs.length ≤ 1000)
    (hD : ∀ pre W, J pre W → W.cell? ⟨Bp, 0, none⟩ = some (.pointer p) ∧ Seg W p wd rs) (hJb : ∀ pre W W', J pre W → Below W.heap.size W W' → J pre W')
    (hY : ∀ pre x W1, J pre W1 → RX rs pre x W1 → YieldAt Fence.wide (n - 1) Try.prog l #[encV x] W1 fun e W' => e = .returned (.bool true) ∧ J (pre ++ [x]) W') (W : World) (h0 : J [] W) :
    CallsIn Fence.wide n Try.prog 68 (#[.func (.yield l) #[] #[]] ++ #[.pointer (some ⟨Bp, 0, none⟩)]) W fun e W' => (∃ v, e = .returned v) ∧ ∃ xs, xs.length = rs.length ∧ J xs W' := by
  refine callsIn_of_wp Try.func68 rfl trivial ?_ rfl
  simp only [Try.ntmps68, List.size_toArray, List.length_cons, List.length_nil, Nat.reduceAdd, Nat.reduceSub, Array.replicate_succ, Array.replicate_zero, List.push_toArray, List.append_toArray, List.nil_append, List.cons_append]
  obtain ⟨c0, hS⟩ := hD _ _ h0
  have cl := segLen_calls hS
  clear hS
  gi_wp2
  refine ⟨trivial, (fun h => by cases h), (callsIn_wide.2 cl).mono ?_⟩
  rintro e w' ⟨rfl, rfl⟩
  gi_wp2
  gi_loopw [6] (fun s wr => ∃ (i : Nat) (pre : List RV), s = .int .i64 i ∧ Hid (pre.length = i) ∧ i ≤ rs.length ∧ Hid (J pre wr)) (fun s _ => rs.length - (intOf s).toNat)
  case atStart => exact ⟨0, [], rfl, Lib.hid rfl, Nat.zero_le _, Lib.hid h0⟩
  case round =>
    obtain ⟨i, pre, rfl, HP, hi, HJ⟩ := hrel
    by_cases hlt : i < rs.length
    · obtain ⟨c1, hS1⟩ := hD _ _ HJ.out
      have cr := segRow_calls hS1 i hlt hwd (by omega)
      clear hS1
      gi_wp2
      refine ⟨trivial, (fun h => by cases h), (callsIn_wide.2 cr).mono ?_⟩
      rintro e W2 ⟨ra, rc, rfl, hr, hc, hb⟩
      have J2 := Lib.hid (hJb _ _ _ HJ.out hb)
      obtain ⟨fn, tmps, assign, body, hy, hRd⟩ := hY pre (ra, rowAt rs i, rc) W2 J2.out ⟨by rw [HP.out], hr, hc, by rw [HP.out]; exact hlt⟩
      dsimp only [encV] at hy
      clear cr hr hc hb
      gi_wp2
      refine ⟨(fun h => by cases h), hRd.mono ?_⟩
      rintro e W3 ⟨rfl, hJ3⟩
      have J3 := Lib.hid hJ3
      clear hJ3 hRd hy c1
      gi_wp2
      go_roundw
      case rel => exact ⟨i + 1, pre ++ [(ra, rowAt rs i, rc)], by go_num, Lib.hid (by rw [List.length_append, HP.out]; rfl), by omega, J3⟩
      case measure => simp [intOf]; omega
    · have tl : decide (i < rs.length) = false := decide_eq_false hlt
      gi_wp2
      go_end0
      exact ⟨⟨_, rfl⟩, pre, by rw [HP.out]; omega, HJ.out⟩
end Go.Proofs.Ytcecndjkfdaaaaa
