/- Contracts of index's match and slotOf. -/
import Derived.Test.YtcecndjkfdaaaaaDoorRv
namespace Go.Proofs.YtcecndjkfdaaaaaDoor
open Go.RowKit
set_option linter.unusedVariables false
set_option linter.unusedSimpArgs false

/-- The key of row i, by columns; the keys of n rows. -/
def keyC (K : List RV) (i : Nat) : List Int := K.map fun x => x.2.1[i]?.getD 0
def keysC (K : List RV) (n : Nat) : List (List Int) := (List.range n).map (keyC K)
theorem keysC_len (K : List RV) (n : Nat) : (keysC K n).length = n := by simp [keysC]
theorem kyAt_keysC {K : List RV} {n i : Nat} (h : i < n) : kyAt (keysC K n) i = keyC K i := by simp [kyAt, keysC, h]
theorem keyC_len (K : List RV) (i : Nat) : (keyC K i).length = K.length := by simp [keyC]
theorem keyC_at {K : List RV} {i k : Nat} (h : k < K.length) : (keyC K i)[k]?.getD 0 = (atV K k).2.1[i]?.getD 0 := by
  rw [atV_eq h]; simp [keyC, h]
theorem RRow.drewN {w : World} {a : Option Addr} {K : List RV} (h : RRow w a K) (n : Nat) : RRow (w.drewN n) a K := h.below (below_drewN (Below.refl _ _) n)
theorem ixCells {w : World} {g : Nat} {a b c d : Value} (h : w.heap[g]? = some (.cells #[a, b, c, d] 74 (0, 0))) : w.cell? ⟨g, 0, none⟩ = some a ∧ w.cell? ⟨g, 1, none⟩ = some b ∧ w.cell? ⟨g, 2, none⟩ = some c ∧ w.cell? ⟨g, 3, none⟩ = some d := by
  refine ⟨?_, ?_, ?_, ?_⟩ <;> (rw [cell_of_row w g _ _ 74 (0, 0) h]; rfl)

set_option maxRecDepth 100000 in
set_option maxHeartbeats 1000000 in
theorem match_calls {w : World} {g : Nat} {ca : Option Addr} {cc : Nat} {K : List RV} {x1 x2 x3 : Value} (hg : w.heap[g]? = some (.cells #[.slice ca K.length cc, x1, x2, x3] 74 (0, 0))) (hK : RRow w ca K) {n i : Nat} (hn : ∀ x ∈ K, x.2.1.length = n) (hi : i < n) (ka : Option Addr) (kc : Nat) (κ : List Int) (hκ : Row w ka κ) (hl : κ.length = K.length) (hKl : K.length ≤ 1000000) (hn1 : n ≤ 1000000) :
    Calls Tryd.prog 61 #[.pointer (some ⟨g, 0, none⟩), .int .i64 i, .slice ka κ.length kc] w (Quiet (.bool (decide (keyC K i = κ))) w) := by
  have c0 := (ixCells hg).1
  have HN := Lib.hid hn
  have HK := Lib.hid hK
  have HA := Lib.hid hκ
  have HL := Lib.hid hl
  clear hg hn hK hκ hl
  go_enter Tryd.func61, Tryd.ntmps61
  go_wp2_with fail
  go_loopw [14] (fun s wr => ∃ k q : Nat, s = .int .i64 k ∧ k ≤ K.length ∧ Hid ((keyC K i).take k = κ.take k) ∧ Hid (wr = w.drewN q)) (fun s _ => K.length - (intOf s).toNat)
  case atStart => exact ⟨0, 0, rfl, Nat.zero_le _, Lib.hid rfl, Lib.hid rfl⟩
  case round =>
    obtain ⟨k, q, rfl, h1, HE, HW⟩ := hrel
    by_cases hlt : k < K.length
    · obtain ⟨b1, off1, rfl, hb1, hc1, hr1, _⟩ := (show RRow wr ca K by rw [HW.out]; exact HK.out.drewN q).at hlt
      have hln := HN.out _ (atV_mem hlt)
      have hlt2 : k < κ.length := by rw [HL.out]; exact hlt
      obtain ⟨b2, off2, hb2a, hb2, hc2⟩ := hr1.at (k := i) (by omega)
      obtain ⟨b3, off3, rfl, hb3, hc3⟩ := (show Row wr ka κ by rw [HW.out]; exact HA.out.drewN q).at hlt2
      rw [hb2a, hln] at hc1
      rw [← keyC_at hlt] at hc2
      have i1 : (k : Int) < (κ.length : Int) := by omega
      have i2 : (i : Int) < (n : Int) := by omega
      have i3 : (0 : Int) ≤ (k : Int) := by omega
      have i4 : (0 : Int) ≤ (i : Int) := by omega
      have hlk : k < (keyC K i).length := by rw [keyC_len]; exact hlt
      clear hr1 hb2a hln
      by_cases e1 : (keyC K i)[k]?.getD 0 = κ[k]?.getD 0
      · have HF : Hid ((keyC K i).take (k + 1) = κ.take (k + 1)) := Lib.hid (by
          rw [List.take_succ_eq_append_getElem hlk, List.take_succ_eq_append_getElem hlt2, HE.out]
          rw [List.getElem?_eq_getElem hlk, List.getElem?_eq_getElem hlt2] at e1
          simp only [Option.getD_some] at e1
          rw [e1])
        rw [← e1] at hc3
        clear e1
        generalize (keyC K i)[k]?.getD 0 = x at *
        go_wp2_with fail
        go_quiet (fail)
        go_wp2_with fail
        go_roundw
        case rel => exact ⟨k + 1, _, by go_num, by omega, HF, Lib.hid (by first | exact drewM HW.out | exact drewM2 HW.out)⟩
        case measure => simp [intOf]; omega
      · have HF := Lib.hid (show decide (keyC K i = κ) = false from decide_eq_false (fun e => e1 (by rw [e])))
        generalize (keyC K i)[k]?.getD 0 = x at *
        generalize κ[k]?.getD 0 = y at *
        have t1 : (x != y) = true := by simpa using e1
        clear e1
        go_wp2_with fail
        go_quiet (fail)
        go_wp2_with fail
        go_ret
        exact ⟨ret_b HF.out.symm, _, by first | exact drewM HW.out | exact drewM2 HW.out⟩
    · have HF := Lib.hid (show decide (keyC K i = κ) = true from decide_eq_true (by
        have := HE.out
        rw [List.take_of_length_le (by rw [keyC_len]; omega), List.take_of_length_le (by rw [HL.out]; omega)] at this
        exact this))
      go_wp2_with fail
      go_ret
      exact ⟨ret_b HF.out.symm, _, HW.out⟩

/-- An index in memory, to be read. -/
def IxR (w : World) (g : Nat) (K : List RV) (sl nx : List Int) (cnt : Nat) : Prop :=
  ∃ ca cc sa sc na nc, w.heap[g]? = some (.cells #[.slice ca K.length cc, .slice sa sl.length sc, .slice na nx.length nc, .int .i64 cnt] 74 (0, 0)) ∧ RRow w ca K ∧ Row w sa sl ∧ Row w na nx
theorem IxR.below {w w' : World} {g : Nat} {K : List RV} {sl nx : List Int} {cnt : Nat} (h : IxR w g K sl nx cnt) (hb : Below w.heap.size w w') : IxR w' g K sl nx cnt := by
  obtain ⟨ca, cc, sa, sc, na, nc, h1, h2, h3, h4⟩ := h
  exact ⟨ca, cc, sa, sc, na, nc, (hb.block g (Array.getElem?_eq_some_iff.1 h1).1).trans h1, h2.below hb, h3.below hb, h4.below hb⟩
/-- A search returns where it ends. -/
def FoundRet (M : Nat) (kys : List (List Int)) (sl : List Int) (κ : List Int) (w : World) (e : Ending) (w' : World) : Prop := ∃ a : Nat, FoundAt M (homeOf M) kys sl κ a ∧ Quiet (.int .i64 a) w e w'
theorem step_mod {M a : Nat} (h : a < M) : (a + 1) % M = if a + 1 = M then 0 else a + 1 := by
  split
  · rename_i e; rw [e, Nat.mod_self]
  · exact Nat.mod_eq_of_lt (by omega)
def distTo (M j a : Nat) : Nat := if a ≤ j then j - a else j + M - a
theorem dist_step {M j a : Nat} (hj : j < M) (ha : a < M) (hne : a ≠ j) : distTo M j ((a + 1) % M) < distTo M j a := by
  rw [step_mod ha]
  unfold distTo
  split <;> split <;> split <;> omega
set_option maxRecDepth 100000 in
set_option maxHeartbeats 1000000 in
theorem slotOf_calls {w : World} {g : Nat} {K : List RV} {sl nx : List Int} {cnt n r M : Nat} (h : IxR w g K sl nx cnt) (hn : ∀ x ∈ K, x.2.1.length = n) (hT : Tab M (homeOf M) (keysC K n) r sl nx cnt) (hM : Pow2 M) (ka : Option Addr) (kc : Nat) (κ : List Int) (hκ : Row w ka κ) (hl : κ.length = K.length) (hKl : K.length ≤ 1000000) (hn1 : n ≤ 1000000) :
    Calls Tryd.prog 47 #[.pointer (some ⟨g, 0, none⟩), .slice ka κ.length kc] w (FoundRet M (keysC K n) sl κ w) := by
  obtain ⟨ca, cc, sa, sc, na, nc, hg, h2, h3, h4⟩ := h
  have c1 := (ixCells hg).2.1
  obtain ⟨_, hM1, hM2⟩ := maskN hM _ rfl
  obtain ⟨j0, hj0, hz0⟩ := hT.free
  have HHM : homeOf M κ < M := Nat.mod_lt _ (by omega)
  have cm : ∀ (q i : Nat), i < n → Calls Tryd.prog 61 #[.pointer (some ⟨g, 0, none⟩), .int .i64 i, .slice ka κ.length kc] (w.drewN q) (Quiet (.bool (decide (keyC K i = κ))) (w.drewN q)) := fun q i hi => match_calls (w := w.drewN q) (by exact hg) (h2.drewN q) hn hi ka kc κ (hκ.drewN q) hl hKl hn1
  have ch := hash_calls ka kc κ w hκ (by omega)
  have CM := Lib.hid cm
  have HS := Lib.hid h3
  have HT := Lib.hid hT
  have HP := Lib.hid hM
  have HZ := Lib.hid hz0
  rw [hT.sll] at c1
  clear h2 h3 h4 hT hM hn hκ cm hg hl hz0
  have u1 : IntKind.u64.wrap ((M : Int) - 1) = (M : Int) - 1 := by rw [IntKind.wrap_u64]; omega
  have u2 : bits .and .u64 (hashL κ) ((M : Int) - 1) = ((homeOf M κ : Nat) : Int) := maskU HP.out _
  obtain ⟨h0, hh0⟩ : ∃ h0, homeOf M κ = h0 := ⟨_, rfl⟩
  rw [hh0] at u2 HHM
  have HH0 := Lib.hid hh0
  clear hh0
  go_enter Tryd.func47, Tryd.ntmps47
  go_wp2_with fail
  refine ch.mono ?_
  rintro e w' ⟨rfl, rfl⟩
  clear ch
  go_wp2_with fail
  go_loopw [6] (fun s wr => ∃ a d q : Nat, s = .int .i64 a ∧ a < M ∧ Hid (a = (homeOf M κ + d) % M) ∧ Hid (Passed M (homeOf M) (keysC K n) sl κ d) ∧ Hid (wr = w.drewN q)) (fun s _ => distTo M j0 (intOf s).toNat)
  case atStart => exact ⟨h0, 0, 0, rfl, HHM, Lib.hid (by rw [HH0.out, Nat.add_zero, Nat.mod_eq_of_lt HHM]), Lib.hid (fun d' hd' => by omega), Lib.hid rfl⟩
  case round =>
    obtain ⟨a, d, q, rfl, ha, HA, HPs, HW⟩ := hrel
    have hsl : sl.length = M := HT.out.sll
    obtain ⟨bs, off, rfl, hbs, hc⟩ := (show Row wr sa sl by rw [HW.out]; exact HS.out.drewN q).at (k := a) (by omega)
    have c1' : wr.cell? ⟨g, 1, none⟩ = some (.slice (some ⟨bs, off, none⟩) M sc) := by rw [HW.out]; exact c1
    have q1 : (a : Int) < (M : Int) := by omega
    have q2 : (0 : Int) ≤ (a : Int) := by omega
    clear hsl
    rcases HT.out.slot a ha with hz | ⟨i, hi, _, hin, _⟩
    · have FA := Lib.hid (HT.out.found_zero HPs.out (by rw [← HA.out]; exact hz))
      rw [show sl[a]?.getD 0 = at0 sl a from rfl, hz] at hc
      clear hz
      go_wp2_with fail
      go_ret
      exact ⟨a, by rw [HA.out]; exact FA.out, rfl, _, HW.out⟩
    · rw [keysC_len] at hin
      rw [show sl[a]?.getD 0 = at0 sl a from rfl, hi] at hc
      have HI := Lib.hid hi
      have HNE : Hid (a ≠ j0) := Lib.hid (fun e => by rw [e, HZ.out] at hi; omega)
      clear hi
      have cmi := CM.out q i hin
      rw [← HW.out] at cmi
      have t1 : decide ((0 : Int) < (i : Int) + 1) = true := decide_eq_true (by omega)
      have u3 : bits .and .i64 ((a : Int) + 1) ((M : Int) - 1) = (((a + 1) % M : Nat) : Int) := maskI HP.out (a + 1) (by omega)
      by_cases hk : keyC K i = κ
      · rw [decide_eq_true hk] at cmi
        have FA : Hid (FoundAt M (homeOf M) (keysC K n) sl κ a) := Lib.hid ⟨ha, .inr ⟨i, HI.out, by rw [kyAt_keysC hin]; exact hk⟩⟩
        clear hk
        go_wp2_with fail
        refine cmi.mono ?_
        rintro e w2 ⟨rfl, q2, rfl⟩
        go_wp2_with fail
        go_ret
        exact ⟨a, FA.out, rfl, _, drewM HW.out⟩
      · rw [decide_eq_false hk] at cmi
        have P2 : Hid (Passed M (homeOf M) (keysC K n) sl κ (d + 1)) := Lib.hid (fun d' hd' => by
          by_cases e : d' = d
          · subst e; exact ⟨i, by rw [← HA.out]; exact HI.out, by rw [kyAt_keysC hin]; exact hk⟩
          · exact HPs.out d' (by omega))
        have A2 : Hid ((a + 1) % M = (homeOf M κ + (d + 1)) % M) := Lib.hid (by rw [HA.out, Nat.mod_add_mod]; rfl)
        have hlt2 : (a + 1) % M < M := Nat.mod_lt _ (by omega)
        have DS := Lib.hid (dist_step hj0 ha HNE.out)
        obtain ⟨a2, ha2⟩ : ∃ a2, (a + 1) % M = a2 := ⟨_, rfl⟩
        rw [ha2] at u3 A2 hlt2 DS
        clear ha2 hk
        go_wp2_with fail
        refine cmi.mono ?_
        rintro e w2 ⟨rfl, q2, rfl⟩
        go_wp2_with fail
        go_roundw
        case rel => exact ⟨a2, d + 1, _, by go_num, hlt2, A2, P2, Lib.hid (drewM HW.out)⟩
        case measure => simp only [intOf]; exact DS.out
end Go.Proofs.YtcecndjkfdaaaaaDoor
