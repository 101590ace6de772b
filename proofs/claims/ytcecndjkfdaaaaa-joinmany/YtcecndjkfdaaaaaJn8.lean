/- sameKey. -/
import Derived.Test.YtcecndjkfdaaaaaJn7
namespace Go.Proofs.Ytcecndjkfdaaaaa
open Go.RowKit Go.Shelf
set_option linter.unusedVariables false
set_option linter.unusedSimpArgs false

/-- The rows at the start with the key of the first one. -/
def SameN (L : List KE) (k : Nat) : Prop := 1 ≤ k ∧ k ≤ L.length ∧ (∀ i, i < k → (atK L i).1.2.1 = (atK L 0).1.2.1) ∧ (k < L.length → (atK L k).1.2.1 ≠ (atK L 0).1.2.1)
def SameRet (w : World) (L : List KE) (e : Ending) (w' : World) : Prop := ∃ k, e = .returned (.int .i64 (k : Nat)) ∧ SameN L k ∧ ∃ q, w' = w.drewN q
set_option maxRecDepth 100000 in
set_option maxHeartbeats 2000000 in
theorem sameKey_calls {w : World} {a : Option Addr} {cap : Nat} {L : List KE} (h : KRow w a L) (h0 : 0 < L.length) (hL : L.length ≤ 1000000) (hl : ∀ x ∈ L, x.1.2.1.length ≤ 1000000) :
    Calls Try.prog 63 #[.slice a L.length cap] w (SameRet w L) := by
  obtain ⟨b, off, rfl, hb, hc⟩ : ∃ b off, a = some ⟨b, off, none⟩ ∧ b < w.heap.size ∧ ∀ i, i < L.length → w.cell? ⟨b, off + i * 2, none⟩ = some (encV (atK L i).1) := by
    rcases h.1 with rfl | ⟨b, off, e, h1, h2⟩
    · simp at h0
    · exact ⟨b, off, e, h1, fun i hi => (h2 i hi).1⟩
  have cs : ∀ (i q : Nat), i < L.length → Calls Try.prog 51 #[.slice (atK L i).1.1 (atK L i).1.2.1.length (atK L i).1.2.2, .slice (atK L 0).1.1 (atK L 0).1.2.1.length (atK L 0).1.2.2] (w.drewN q) (Quiet (.bool (decide ((atK L i).1.2.1 = (atK L 0).1.2.1))) (w.drewN q)) := fun i q hi =>
    equal_calls _ _ _ _ _ _ _ ((h.2 _ (atK_mem hi)).1.drewN q) ((h.2 _ (atK_mem h0)).1.drewN q) (hl _ (atK_mem hi)) (hl _ (atK_mem h0))
  have HC : Hid (∀ i q, i < L.length → (w.drewN q).cell? ⟨b, off + i * 2, none⟩ = some (.slice (atK L i).1.1 (atK L i).1.2.1.length (atK L i).1.2.2)) := Lib.hid (fun i q hi => hc i hi)
  have H0 := Lib.hid h0
  clear h hl hc hb
  go_enter Try.func63, Try.ntmps63
  go_wp2_with fail
  go_loopw [3] (fun s wr => ∃ k q : Nat, s = .int .i64 k ∧ k ≤ L.length ∧ 1 ≤ k ∧ Hid (∀ i, i < k → (atK L i).1.2.1 = (atK L 0).1.2.1) ∧ Hid (wr = w.drewN q)) (fun s _ => L.length - (intOf s).toNat)
  case atStart => exact ⟨1, 0, rfl, h0, Nat.le_refl _, Lib.hid (fun i hi => by rw [show i = 0 by omega]), Lib.hid rfl⟩
  case round =>
    obtain ⟨k, q, rfl, hk, hk1, HE, HW⟩ := hrel
    by_cases hlt : k < L.length
    · have c1 : wr.cell? ⟨b, off + k * 2, none⟩ = some (.slice (atK L k).1.1 (atK L k).1.2.1.length (atK L k).1.2.2) := by rw [HW.out]; exact HC.out k q hlt
      have c2 : wr.cell? ⟨b, off, none⟩ = some (.slice (atK L 0).1.1 (atK L 0).1.2.1.length (atK L 0).1.2.2) := by have := HC.out 0 q h0; rw [Nat.zero_mul, Nat.add_zero] at this; rw [HW.out]; exact this
      have ck : ∀ m, Calls Try.prog 51 #[.slice (atK L k).1.1 (atK L k).1.2.1.length (atK L k).1.2.2, .slice (atK L 0).1.1 (atK L 0).1.2.1.length (atK L 0).1.2.2] (wr.drewN m) (Quiet (.bool (decide ((atK L k).1.2.1 = (atK L 0).1.2.1))) (wr.drewN m)) := fun m => by rw [HW.out, World.drewN_drewN]; exact cs k _ hlt
      have tl : decide ((k : Int) < (L.length : Int)) = true := decide_eq_true (by omega)
      by_cases he : (atK L k).1.2.1 = (atK L 0).1.2.1
      · rw [decide_eq_true he] at ck
        have HE2 : Hid (∀ i, i < k + 1 → (atK L i).1.2.1 = (atK L 0).1.2.1) := Lib.hid (fun i hi => by rcases Nat.lt_succ_iff_lt_or_eq.1 hi with h | h; exact HE.out i h; rw [h]; exact he)
        clear he cs
        generalize (atK L k).1.2.1.length = n1 at *
        generalize (atK L 0).1.2.1.length = n2 at *
        go_wp2_with fail
        go_quiet ((exact Calls.quiet_of (ck _)))
        rename_i qd
        go_wp2_with fail
        go_roundw
        case rel => exact ⟨k + 1, _, by go_num, by omega, by omega, HE2, Lib.hid (drewM HW.out)⟩
        case measure => simp [intOf]; omega
      · rw [decide_eq_false he] at ck
        have HN : Hid (SameN L k) := Lib.hid ⟨hk1, hk, HE.out, fun _ => he⟩
        clear he cs
        generalize (atK L k).1.2.1.length = n1 at *
        generalize (atK L 0).1.2.1.length = n2 at *
        go_wp2_with fail
        go_quiet ((exact Calls.quiet_of (ck _)))
        rename_i qd
        go_wp2_with fail
        go_ret
        exact ⟨k, rfl, HN.out, _, drewM HW.out⟩
    · have tl : decide ((k : Int) < (L.length : Int)) = false := decide_eq_false (by omega)
      have HN : Hid (SameN L k) := Lib.hid ⟨hk1, hk, HE.out, fun h => absurd h hlt⟩
      go_wp2_with fail
      go_quiet (fail)
      rename_i qd
      go_wp2_with fail
      go_ret
      exact ⟨k, rfl, HN.out, _, drewM HW.out⟩
end Go.Proofs.Ytcecndjkfdaaaaa
