/- Contract of Components: the components in the greedy order. -/
import Derived.Test.YtfpocoaddmgakaaOr2
namespace Go.Proofs.Ytfpocoaddmgakaa
open Go.RowKit
set_option linter.unusedVariables false
set_option linter.unusedSimpArgs false

/-- The edges between components, as numbers. -/
def stepN (n : Nat) (H : Nat → Nat) (v : Nat) (t : Int) : List (Nat × Nat) :=
  if (0 ≤ t ∧ t < (n : Int)) ∧ H v ≠ H t.toNat then [(H v, H t.toNat)] else []
def betwN (n : Nat) (E : Nat → List Int) (H : Nat → Nat) (k : Nat) : List (Nat × Nat) := (List.range k).flatMap fun v => (E v).flatMap (stepN n H v)
theorem step_is (n : Nat) (H : Nat → Nat) (v : Nat) (t : Int) : edgesI (stepN n H v t) = stepE n H v t := by
  unfold stepN stepE edgesI
  split <;> simp
theorem edgesI_flat {α : Type} (f : α → List (Nat × Nat)) (l : List α) : edgesI (l.flatMap f) = l.flatMap fun x => edgesI (f x) := by
  unfold edgesI; rw [List.map_flatMap]
theorem betw_is (n : Nat) (E : Nat → List Int) (H : Nat → Nat) (k : Nat) : edgesI (betwN n E H k) = betw n E H k := by
  unfold betwN betw
  rw [edgesI_flat]
  congr 1
  funext v
  rw [edgesI_flat]
  congr 1
  funext t
  exact step_is n H v t
theorem mem_betw {n : Nat} {E : Nat → List Int} {H : Nat → Nat} {c d : Nat} : (c, d) ∈ betwN n E H n ↔ ∃ a b, Edge n E a b ∧ H a = c ∧ H b = d ∧ c ≠ d := by
  unfold betwN
  simp only [List.mem_flatMap, List.mem_range]
  constructor
  · rintro ⟨v, hv, t, ht, hm⟩
    unfold stepN at hm
    split at hm
    · rename_i h
      obtain ⟨⟨h1, h2⟩, h3⟩ := h
      obtain ⟨b, rfl⟩ : ∃ b : Nat, t = b := ⟨t.toNat, by omega⟩
      rw [Int.toNat_natCast] at h3 hm
      obtain ⟨rfl, rfl⟩ : c = H v ∧ d = H b := by simpa using hm
      exact ⟨v, b, ⟨hv, by omega, ht⟩, rfl, rfl, h3⟩
    · cases hm
  · rintro ⟨a, b, ⟨h1, h2, h3⟩, rfl, rfl, hne⟩
    refine ⟨a, h1, (b : Int), h3, ?_⟩
    unfold stepN
    rw [if_pos (by rw [Int.toNat_natCast]; exact ⟨⟨by omega, by omega⟩, hne⟩), Int.toNat_natCast]
    simp

/-- The components are numbered in the order of their first nodes. -/
structure CN (n : Nat) (E : Nat → List Int) (m : Nat) (H : Nat → Nat) : Prop where
  lt : ∀ v, v < n → H v < m
  occ : ∀ j, j < m → ∃ v, v < n ∧ H v = j
  first : ∀ v, v < n → ∀ j, j < H v → ∃ u, u < v ∧ H u = j
  same : ∀ u v, u < n → v < n → (H u = H v ↔ RT (Edge n E) u v ∧ RT (Edge n E) v u)
  le : m ≤ n
/-- What Components returns. -/
def CompsOf (n : Nat) (E : Nat → List Int) (R : List (List Int)) : Prop :=
  ∃ m H S, CN n E m H ∧ Greedy m (betwN n E H n) S ∧ (∀ a, ¬ Ready m (betwN n E H n) S a) ∧ R = S.map (cls n H)
def CompRet (w : World) (n : Nat) (E : Nat → List Int) (e : Ending) (w' : World) : Prop :=
  ∃ a cap M, e = .returned (.slice a M.length cap) ∧ RRow w' a M ∧ CompsOf n E (M.map (·.2.1)) ∧ Below w.heap.size w w'

set_option maxRecDepth 100000 in
set_option maxHeartbeats 4000000 in
theorem comps_calls {w : World} {ea : Option Addr} {ec : Nat} {K : List RV} (hE : RRow w ea K) (hdeg : ∀ i, i < K.length → (edgesOf K i).length ≤ 100000) (hT : tot K.length (fun v => (edgesOf K v).length) ≤ 1000000) (hn : K.length ≤ 100000) :
    Calls Try.prog 10 #[.slice ea K.length ec] w (CompRet w K.length (edgesOf K)) := by
  have HE := Lib.hid hE
  have HDEG := Lib.hid hdeg
  have HT := Lib.hid hT
  have HN := Lib.hid hn
  obtain ⟨n, hKn⟩ : ∃ n, K.length = n := ⟨_, rfl⟩
  have HKN := Lib.hid hKn
  have cl := leaders_calls (ec := ec) hE hdeg hn
  rw [hKn] at hn cl ⊢
  clear hE hdeg hT hKn
  go_enter Try.func10, Try.ntmps10
  go_wp2_with (first | (go_at_call 14; refine cl.mono ?_; rintro e w1 ⟨b, L, rfl, hb, hL, hbB, hbe⟩; have HB := Lib.hid hb; have HL := Lib.hid hL; have BE1 := Lib.hid hbe; have cn := number_calls hb hn hL.1; clear hb hL hbB hbe) | (go_at_call 13; refine cn.mono ?_; rintro e w2 ⟨m, H, KV, pv, rfl, hnum, hpl, hlen, hhome, hbe2⟩; have HNUM := Lib.hid hnum; have HPL := Lib.hid hpl; have HLEN := Lib.hid hlen; have HHOME := Lib.hid hhome; have BE2 := Lib.hid hbe2; clear hnum hpl hlen hhome hbe2 cn))
  have BE12 : Hid (Below w.heap.size w w2) := Lib.hid (BE1.out.trans (BE2.out.mono BE1.out.size))
  obtain ⟨pa, pc, rfl, hrr⟩ := HPL.out.rrow
  have HRR := Lib.hid hrr
  have cb := between_calls (ec := ec) (hb := w1.heap.size) (H := H) (HE.out.below BE12.out) (by rw [HKN.out]; exact HHOME.out) HDEG.out HT.out HN.out
  rw [HKN.out] at cb
  clear hrr
  refine cb.mono ?_
  rintro e w3 ⟨v, rfl, hv⟩
  have HV := Lib.hid hv
  clear hv cb
  have hESl : (betwN n (edgesOf K) H n).length ≤ 1000000 := by
    have h1 := betw_len n (edgesOf K) H n
    rw [← betw_is] at h1
    have h2 := HT.out
    rw [HKN.out] at h2
    simp only [edgesI, List.length_map] at h1
    omega
  have co := order_calls (pc := pc) (base := w2.heap.size) (KP := PL.rv KV (cls n H)) (ev := v) (ES := betwN n (edgesOf K) H n) (HRR.out.below HV.out.2) (by have := HV.out.1; rw [← betw_is] at this; simpa [edgesI] using this) (fun e he => by
    rw [PL.rvLen, HLEN.out]
    obtain ⟨a, b, he2, h1, h2, _⟩ := mem_betw.1 (show (e.1, e.2) ∈ _ from he)
    rw [← h1, ← h2]
    exact ⟨HNUM.out.lt a he2.1, HNUM.out.lt b he2.2.1⟩) hESl (by rw [PL.rvLen, HLEN.out]; have := HNUM.out.le; omega)
  rw [PL.rvLen] at co
  clear hESl
  go_wp2_with (first | (go_at_call 15; refine co.mono ?_; rintro e w4 ⟨S, a9, c9, rfl, h1, h2, h3, h4⟩; have R1 := Lib.hid h1; have R2 := Lib.hid h2; have R3 := Lib.hid h3; have R4 := Lib.hid h4; clear h1 h2 h3 h4))
  go_ret
  have hS : (S.map (atV (PL.rv KV (cls n H)))).length = S.length := by simp
  refine ⟨a9, c9, S.map (atV (PL.rv KV (cls n H))), by rw [hS]; rfl, R1.out, ⟨m, H, S, ⟨HNUM.out.lt, HNUM.out.occ, HNUM.out.first, fun u v hu hv => ?_, HNUM.out.le⟩, ?_, ?_, ?_⟩, ?_⟩
  · rw [HNUM.out.same u v hu hv]; exact HL.out.2 u v hu hv
  · have := R2.out; rw [PL.rvLen, HLEN.out] at this; exact this
  · have := R3.out; rw [PL.rvLen, HLEN.out] at this; exact this
  · rw [List.map_map]
    refine List.map_congr_left (fun c hc => ?_)
    have h1 := R2.out.ok.1 c hc
    rw [PL.rvLen] at h1
    exact PL.rvAt h1
  · have h1 := BE12.out.size
    exact (BE12.out.trans (HV.out.2.mono h1)).trans (R4.out.mono (by have := HV.out.2.size; omega))
end Go.Proofs.Ytfpocoaddmgakaa
