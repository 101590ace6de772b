/- Contract of between. -/
import Derived.Test.YtfpocoaddmgakaaNu
namespace Go.Proofs.Ytfpocoaddmgakaa
open Go.RowKit
set_option linter.unusedVariables false
set_option linter.unusedSimpArgs false

/-- append under a name that the walk does not open. -/
noncomputable def appM (ats : Array TypeId) (ty : TypeId) (args : Array Value) : Sem Value := Builtin.append_ ats ty args
theorem app_rule (ats : Array TypeId) (ty : TypeId) (args : Array Value) : Builtin.append_ ats ty args = appM ats ty args := rfl
attribute [local go_sem ↓] app_rule
theorem info47 : (Try.prog.info? 47).map (fun i => (i.zero, i.size, i.bytes)) = some (some (.agg #[.int .i64 0, .int .i64 0]), 2, 16) := by kernel_rfl

/-- What an edge gives. -/
def stepE (n : Nat) (H : Nat → Nat) (v : Nat) (t : Int) : List (Int × Int) :=
  if (0 ≤ t ∧ t < (n : Int)) ∧ H v ≠ H t.toNat then [((H v : Int), (H t.toNat : Int))] else []
def rowE (n : Nat) (E : Nat → List Int) (H : Nat → Nat) (v j : Nat) : List (Int × Int) := ((E v).take j).flatMap (stepE n H v)
def betw (n : Nat) (E : Nat → List Int) (H : Nat → Nat) (k : Nat) : List (Int × Int) := (List.range k).flatMap fun v => (E v).flatMap (stepE n H v)
theorem rowE_step {n : Nat} {E : Nat → List Int} {H : Nat → Nat} {v j : Nat} (h : j < (E v).length) : rowE n E H v (j + 1) = rowE n E H v j ++ stepE n H v ((E v)[j]?.getD 0) := by
  unfold rowE
  rw [List.take_succ_eq_append_getElem h, List.flatMap_append]
  simp [h]
theorem rowE_all {n : Nat} {E : Nat → List Int} {H : Nat → Nat} {v j : Nat} (h : (E v).length ≤ j) : rowE n E H v j = (E v).flatMap (stepE n H v) := by unfold rowE; rw [List.take_of_length_le h]
theorem betw_step {n : Nat} {E : Nat → List Int} {H : Nat → Nat} {k : Nat} : betw n E H (k + 1) = betw n E H k ++ (E k).flatMap (stepE n H k) := by
  unfold betw; rw [List.range_succ, List.flatMap_append]; simp
theorem stepE_len (n : Nat) (H : Nat → Nat) (v : Nat) (t : Int) : (stepE n H v t).length ≤ 1 := by unfold stepE; split <;> simp
theorem flat1_len {α β : Type} {f : α → List β} (h : ∀ x, (f x).length ≤ 1) (l : List α) : (l.flatMap f).length ≤ l.length := by
  induction l with
  | nil => simp
  | cons x l ih => rw [List.flatMap_cons, List.length_append, List.length_cons]; have := h x; omega
theorem rowE_len (n : Nat) (E : Nat → List Int) (H : Nat → Nat) (v j : Nat) : (rowE n E H v j).length ≤ (E v).length := by
  have := flat1_len (stepE_len n H v) ((E v).take j)
  unfold rowE
  simp only [List.length_take] at this
  omega
theorem betw_len (n : Nat) (E : Nat → List Int) (H : Nat → Nat) (k : Nat) : (betw n E H k).length ≤ tot k (fun v => (E v).length) := by
  induction k with
  | zero => simp [betw]
  | succ k ih => rw [betw_step, List.length_append]; simp only [tot]; have := flat1_len (stepE_len n H k) (E k); omega
theorem tot_mono {f : Nat → Nat} {k n : Nat} (h : k ≤ n) : tot k f ≤ tot n f := by
  induction n with
  | zero => obtain rfl : k = 0 := by omega
            exact Nat.le_refl _
  | succ n ih =>
    by_cases e : k = n + 1
    · rw [e]; exact Nat.le_refl _
    · have := ih (by omega); simp only [tot]; omega

theorem two_new (w : World) (a b : Value) (t : TypeId) : ∀ (j : Nat) (u : Value), [a, b][j]? = some u → (w.alloc (.cells #[a, b] t)).cell? ((⟨w.heap.size, 0, none⟩ : Addr).add j) = some u := by
  intro j u hj
  have hh := heap_alloc_new w (.cells #[a, b] t)
  match j, hj with
  | 0, hj => simp at hj; subst hj; show (w.alloc _).cell? ⟨w.heap.size, 0, none⟩ = _; rw [cell_of_row _ _ 0 _ t (0, 0) hh]; rfl
  | 1, hj => simp at hj; subst hj; show (w.alloc _).cell? ⟨w.heap.size, 1, none⟩ = _; rw [cell_of_row _ _ 1 _ t (0, 0) hh]; rfl
def BetwAt (B : Nat) (w wr : World) (v : Value) (L : List (Int × Int)) : Prop := wr.ownsRow B 47 2 v L.length (flat L) ∧ Below B w wr

set_option maxRecDepth 100000 in
set_option maxHeartbeats 4000000 in
theorem between_calls {w : World} {ea : Option Addr} {ec hb : Nat} {K : List RV} {H : Nat → Nat} (hE : RRow w ea K) (hH : w.heap[hb]? = some (.cells (arr K.length fun v => (H v : Int)) 3 (0, 0))) (hdeg : ∀ i, i < K.length → (edgesOf K i).length ≤ 100000) (hT : tot K.length (fun v => (edgesOf K v).length) ≤ 1000000) (hn : K.length ≤ 100000) :
    Calls Try.prog 16 #[.slice ea K.length ec, sl hb K.length] w fun e w' => ∃ v, e = .returned v ∧ BetwAt w.heap.size w w' v (betw K.length (edgesOf K) H K.length) := by
  obtain ⟨n, hKn⟩ : ∃ n, K.length = n := ⟨_, rfl⟩
  rw [hKn]
  obtain ⟨B, hB⟩ : ∃ B, w.heap.size = B := ⟨_, rfl⟩
  rw [hB]
  obtain ⟨E, hEE⟩ : ∃ E, edgesOf K = E := ⟨_, rfl⟩
  rw [hEE]
  rw [hKn, hEE] at hT
  have hbB : hb < B := by rw [← hB]; exact (Array.getElem?_eq_some_iff.1 hH).1
  rw [hKn] at hH hn
  rw [hEE, hKn] at hdeg
  have HB := Lib.hid hB
  have HE := Lib.hid hE
  have HH := Lib.hid hH
  have HDEG := Lib.hid hdeg
  have HT := Lib.hid hT
  have HKN := Lib.hid hKn
  have HEE := Lib.hid hEE
  obtain ⟨i0, hi, hz0, hz1, hz2⟩ := info_parts info47
  have I := Lib.hid hi
  have Z0 := Lib.hid hz0
  have Z1 := Lib.hid hz1
  have Z2 := Lib.hid hz2
  have A0 : Hid (BetwAt B w w (.slice none 0 0) (betw n E H 0)) := Lib.hid ⟨World.ownsRow_nil _ _ _ _, Below.refl _ _⟩
  clear hB hE hH hdeg hT hKn hEE hi hz0 hz1 hz2
  go_enter Try.func16, Try.ntmps16
  go_wp2_with fail
  go_loopw [12, 5, 6, 7, 9] (fun s12 s5 _ _ _ wr => ∃ (k : Nat) (v : Value), k ≤ n ∧ s12 = .int .i64 k ∧ v = s5 ∧ Hid (BetwAt B w wr v (betw n E H k))) (fun s12 _ _ _ _ _ => n - (intOf s12).toNat)
  case atStart => exact ⟨0, _, Nat.zero_le _, rfl, rfl, A0⟩
  case round =>
    obtain ⟨k, v, hk, rfl, rfl, HA⟩ := hrel
    clear A0
    by_cases hlt : k < n
    · have k0 : (0 : Int) ≤ (k : Int) := by omega
      have k1 : (k : Int) < (n : Int) := by omega
      have hrow0 := (HE.out.2 _ (atV_mem (by rw [HKN.out]; exact hlt : k < K.length))).1
      obtain ⟨eb, eo, rfl, heb, hec, herow, hecap⟩ := (HE.out.belowB HB.out HA.out.2).at (k := k) (by rw [HKN.out]; exact hlt)
      have hEx : (atV K k).2.1 = E k := by rw [← HEE.out]; rfl
      rw [hEx] at hec herow hecap hrow0
      generalize (atV K k).1 = xa at *
      generalize (atV K k).2.2 = xc at *
      have hdx := HDEG.out k hlt
      have HR : Hid (∀ wv, Below B w wv → Row wv xa (E k)) := Lib.hid (fun wv hb => hrow0.belowB HB.out hb)
      have A1 : Hid (BetwAt B w wr v (betw n E H k ++ rowE n E H k 0) ∧ Below B wr wr) := Lib.hid ⟨by unfold rowE; simpa using HA.out, Below.refl _ _⟩
      have HBL := Lib.hid (show (betw n E H k).length + (E k).length ≤ 1000000 from by
        have h1 := betw_len n E H k
        have h2 := tot_mono (f := fun v => (E v).length) (show k + 1 ≤ n by omega)
        have h3 := HT.out
        simp only [tot] at h2; omega)
      obtain ⟨wm, hwm⟩ : ∃ x, x = wr := ⟨wr, rfl⟩
      have c16 : wr.cell? ⟨eb, eo + k, none⟩ = some (.slice xa (E k).length xc) := hec
      have HBB := Lib.hid HA.out.2
      clear herow hrow0 hEx hec HA
      go_wp2_with fail
      rw [← hwm] at A1 HBB
      clear c16
      go_loopw [19, 5, 9] (fun s19 s5 _ wv => ∃ (j : Nat) (v : Value), j ≤ (E k).length ∧ s19 = .int .i64 j ∧ v = s5 ∧ Hid (BetwAt B w wv v (betw n E H k ++ rowE n E H k j) ∧ Below B wm wv)) (fun s19 _ _ _ => (E k).length - (intOf s19).toNat)
      case atStart => rw [← hwm]; exact ⟨0, _, Nat.zero_le _, rfl, rfl, A1⟩
      case round =>
        obtain ⟨j, v2, hj, rfl, rfl, HJ⟩ := hrel
        clear A1 hwm
        by_cases hlj : j < (E k).length
        · have ST := Lib.hid (rowE_step (n := n) (H := H) hlj)
          obtain ⟨xb, xo, rfl, hxb, hxc⟩ := (HR.out wr (HBB.out.trans HJ.out.2)).at hlj
          generalize (E k)[j]?.getD 0 = t at *
          have j0 : (0 : Int) ≤ (j : Int) := by omega
          have j1 : (j : Int) < ((E k).length : Int) := by omega
          have iN := fun W => isNode_calls (some ⟨eb, eo, none⟩) n ec t W
          have HHr := (HBB.out.trans HJ.out.2).block hb hbB
          have h1 : wr.cell? ⟨hb, k, none⟩ = some (.int .i64 (H k : Int)) := by rw [cell_of_row wr hb k _ 3 (0, 0) (HHr.trans HH.out), arr_get hlt]
          by_cases hnode : 0 ≤ t ∧ t < (n : Int)
          · obtain ⟨b, rfl⟩ : ∃ b : Nat, t = b := ⟨t.toNat, by omega⟩
            have ht1 : decide (0 ≤ (b : Int) ∧ (b : Int) < (n : Int)) = true := decide_eq_true hnode
            simp only [ht1] at iN
            have hbn : b < n := by omega
            have b0 : (0 : Int) ≤ (b : Int) := by omega
            have b1 : (b : Int) < (n : Int) := by omega
            have h2 : wr.cell? ⟨hb, b, none⟩ = some (.int .i64 (H b : Int)) := by rw [cell_of_row wr hb b _ 3 (0, 0) (HHr.trans HH.out), arr_get hbn]
            by_cases hne : H k = H b
            · have SN : Hid (stepE n H k (b : Int) = []) := Lib.hid (by unfold stepE; rw [if_neg (by rw [Int.toNat_natCast]; exact fun h => h.2 hne)])
              have q1 : (((H k : Nat) : Int) != ((H b : Nat) : Int)) = false := by rw [hne]; simp
              clear hnode ht1 HHr
              go_wp2_with fail
              go_quiet ((exact Calls.quiet_of_same (iN _)))
              have NX : Hid (BetwAt B w (wr.drewN nq) v2 (betw n E H k ++ rowE n E H k (j + 1)) ∧ Below B wm (wr.drewN nq)) := Lib.hid (by
                rw [ST.out, SN.out, List.append_nil]
                exact ⟨⟨HJ.out.1.1, below_drewN HJ.out.1.2 _⟩, below_drewN HJ.out.2 _⟩)
              clear hxc h1 h2 iN HJ
              go_wp2_with fail
              go_roundw
              case rel => exact ⟨j + 1, _, by omega, by go_num, rfl, NX⟩
              case measure => simp [intOf]; omega
            · have SN : Hid (stepE n H k (b : Int) = [((H k : Int), (H b : Int))]) := Lib.hid (by unfold stepE; rw [if_pos (by rw [Int.toNat_natCast]; exact ⟨hnode, hne⟩), Int.toNat_natCast])
              have q1 : (((H k : Nat) : Int) != ((H b : Nat) : Int)) = true := by rw [bne_iff_ne]; omega
              clear hnode ht1 HHr hne
              go_wp2_with fail
              go_quiet ((exact Calls.quiet_of_same (iN _)))
              have W1 : (wr.drewN nq).cell? ⟨hb, k, none⟩ = some (.int .i64 (H k : Int)) := h1
              have W2 : (wr.drewN nq).cell? ⟨hb, b, none⟩ = some (.int .i64 (H b : Int)) := h2
              have W3 := Lib.hid (show (wr.drewN nq).ownsRow B 47 2 v2 _ _ from HJ.out.1.1)
              have W4 := Lib.hid (show Below B w (wr.drewN nq) ∧ Below B wm (wr.drewN nq) from ⟨below_drewN HJ.out.1.2 _, below_drewN HJ.out.2 _⟩)
              have hBW : B ≤ (wr.drewN nq).heap.size := by have := W4.out.1.size; rw [HB.out] at this; exact this
              have hlb : hb < (wr.drewN nq).heap.size := by omega
              generalize wr.drewN nq = W at *
              clear hxc h1 h2 iN HJ
              have V1 : ∀ o, (W.alloc o).cell? ⟨hb, k, none⟩ = some (.int .i64 (H k : Int)) := fun o => by rw [World.cell?_of_block (a := ⟨hb, k, none⟩) (heap_alloc_old W _ hlb)]; exact W1
              have V2 : ∀ o, (W.alloc o).cell? ⟨hb, b, none⟩ = some (.int .i64 (H b : Int)) := fun o => by rw [World.cell?_of_block (a := ⟨hb, b, none⟩) (heap_alloc_old W _ hlb)]; exact W2
              obtain ⟨LL, hLL⟩ : ∃ LL, betw n E H k ++ rowE n E H k j = LL := ⟨_, rfl⟩
              have hll : LL.length ≤ 1000000 := by rw [← hLL, List.length_append]; have h1 := rowE_len n E H k j; have h2 := HBL.out; omega
              rw [hLL] at W3
              obtain ⟨v3, w5, hrun, hown5, hgrow5, _, hat5⟩ := run_append_own_at (P := Try.prog) (W.alloc (.cells #[.int .i64 (H k : Int), .int .i64 (H b : Int)] 47)).drew B 36 36 47 i0 (.agg #[.int .i64 0, .int .i64 0]) 2 16 Try.underlying36 I.out Z0.out Z1.out Z2.out rfl (by decide) v2 LL.length (flat LL) (W3.out.alloc _) ⟨W.heap.size, 0, none⟩ 1 1 [.int .i64 (H k : Int), .int .i64 (H b : Int)] rfl (two_new W _ _ _) (by intro u hu; simp at hu; rcases hu with rfl | rfl <;> rfl) (by unfold maxLen; omega) (by omega) (by simp; omega)
              have hrun' : (appM #[36, 36] 36 #[v2, .slice (some ⟨W.heap.size, 0, none⟩) 1 1]).run Try.prog (W.alloc (.cells #[.int .i64 (H k : Int), .int .i64 (H b : Int)] 47)).drew = .ok v3 w5 := hrun
              have HG5 := Lib.hid hgrow5
              have HO5 := Lib.hid hown5
              clear hrun hgrow5 hat5 hown5
              go_wp2_with fail
              go_region
              have own2 : ∀ c, v2.ownBlock = some c → B ≤ c := fun c hc => (W3.out.lt c hc).1
              have kk : Keeps (fun c => v2.ownBlock = some c) W w5 := (((Keeps.refl (fun c => v2.ownBlock = some c) W).alloc _).trans (b := W.alloc (.cells #[.int .i64 (H k : Int), .int .i64 (H b : Int)] 47)) (c := w5) ⟨HG5.out.os, HG5.out.tape, HG5.out.output, HG5.out.size, fun i hi hn => HG5.out.block i hi (fun e => hn e.symm)⟩)
              have NX : Hid (BetwAt B w w5 v3 (betw n E H k ++ rowE n E H k (j + 1)) ∧ Below B wm w5) := Lib.hid (by
                rw [ST.out, SN.out, ← List.append_assoc, hLL]
                refine ⟨⟨by rw [List.length_append, flat_append]; exact HO5.out, W4.out.1.trans (kk.below hBW own2)⟩, W4.out.2.trans (kk.below hBW own2)⟩)
              clear hrun' V1 V2 W1 W2 kk own2
              go_wp2_with fail
              go_roundw
              case rel => exact ⟨j + 1, _, by omega, by go_num, rfl, NX⟩
              case measure => simp [intOf]; omega
          · have ht1 : decide (0 ≤ t ∧ t < (n : Int)) = false := decide_eq_false hnode
            simp only [ht1] at iN
            have SN : Hid (stepE n H k t = []) := Lib.hid (by unfold stepE; rw [if_neg (fun h => hnode h.1)])
            clear hnode ht1 HHr
            go_wp2_with fail
            go_quiet ((exact Calls.quiet_of_same (iN _)))
            have NX : Hid (BetwAt B w (wr.drewN nq) v2 (betw n E H k ++ rowE n E H k (j + 1)) ∧ Below B wm (wr.drewN nq)) := Lib.hid (by
              rw [ST.out, SN.out, List.append_nil]
              exact ⟨⟨HJ.out.1.1, below_drewN HJ.out.1.2 _⟩, below_drewN HJ.out.2 _⟩)
            clear hxc h1  iN HJ
            go_wp2_with fail
            go_roundw
            case rel => exact ⟨j + 1, _, by omega, by go_num, rfl, NX⟩
            case measure => simp [intOf]; omega
        · have A2 : Hid (BetwAt B w wr v2 (betw n E H (k + 1)) ∧ Below B w wr) := Lib.hid (by
            have := HJ.out.1
            rw [rowE_all (by omega), ← betw_step] at this
            exact ⟨this, HBB.out.trans HJ.out.2⟩)
          clear HJ
          go_wp2_with fail
          go_roundw
          case rel => exact ⟨k + 1, _, by omega, by go_num, rfl, Lib.hid A2.out.1⟩
          case measure => simp [intOf]; omega
    · obtain rfl : k = n := by omega
      clear HE HH
      have R := HA.out
      obtain ⟨va, vc, rfl⟩ := row_form' R.1
      go_wp2_with fail
      go_ret
      exact ⟨_, rfl, HA.out⟩
end Go.Proofs.Ytfpocoaddmgakaa
