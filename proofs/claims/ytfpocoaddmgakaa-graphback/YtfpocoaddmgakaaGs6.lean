/- Contract of from. -/
import Derived.Test.YtfpocoaddmgakaaGs5
import Derived.Test.YtfpocoaddmgakaaUl
namespace Go.Proofs.Ytfpocoaddmgakaa
open Go.RowKit
set_option linter.unusedVariables false
set_option linter.unusedSimpArgs false

/-- The edges of a node. -/
def edgesOf (K : List RV) (i : Nat) : List Int := (atV K i).2.1
/-- What holds of the search between two steps. -/
def FromS (B : Nat) (G : Nat) (ev : Value) (n bt bl bn bd : Nat) (E : Nat → List Int) (done : Nat → Prop) (wr : World) (s : TS) : Prop :=
  Step n E s ∧ (∃ pv ov, SM B wr G ev n bt bl bn bd pv ov s) ∧ ∀ u, done u → s.turn u ≠ 0

set_option maxRecDepth 100000 in
set_option maxHeartbeats 4000000 in
theorem from_calls {B : Nat} {w0 w : World} {G : Nat} {ea : Option Addr} {ec bt bl bn bd : Nat} {K : List RV} {s : TS} (hE : RRow w0 ea K) (hB0 : w0.heap.size = B) (hW : Below B w0 w) (hdeg : ∀ i, i < K.length → (edgesOf K i).length ≤ 100000)
    (hS : Step K.length (edgesOf K) s) {pv ov : Value} (hM : SM B w G (.slice ea K.length ec) K.length bt bl bn bd pv ov s) (hp : s.path = []) {v : Nat} (hv : v < K.length) (h0 : s.turn v = 0) (hn : K.length ≤ 100000) :
    Calls Try.prog 20 #[.pointer (some ⟨G, 0, none⟩), .int .i64 v] w fun e w' => e = .returned (.tuple #[]) ∧ (∃ s', FromS B G (.slice ea K.length ec) K.length bt bl bn bd (edgesOf K) (fun u => s.turn u ≠ 0 ∨ u = v) w' s' ∧ s'.path = []) ∧ Below B w0 w' := by
  obtain ⟨n, hKn⟩ : ∃ n, K.length = n := ⟨_, rfl⟩
  obtain ⟨E, hEE⟩ : ∃ E, edgesOf K = E := ⟨_, rfl⟩
  have HEE := Lib.hid hEE
  rw [hEE] at hdeg hS
  rw [hEE]
  have HE := Lib.hid hE
  have HKN := Lib.hid hKn
  rw [hKn] at hdeg hS hM hv hn
  rw [hKn]
  have HB0 := Lib.hid hB0
  have HDEG := Lib.hid hdeg
  obtain ⟨b1, b2, b3, _⟩ := hS.small hn
  have ce := enter_calls hM (by rw [← hB0]; exact hW.size) hv hn b1 b2 b3
  have S1 := Lib.hid (hS.first hv h0 hp)
  have HW := Lib.hid hW
  have T1 : Hid (∀ u, s.turn u ≠ 0 ∨ u = v → (s.enter v).turn u ≠ 0) := Lib.hid (fun u hu => enter_turn hu)
  clear hE hEE hKn hB0 hdeg hS hM hp h0 hW b1 b2 b3
  generalize s.enter v = s1 at *
  obtain ⟨D, hD⟩ : ∃ D : Nat → Prop, (fun u => s.turn u ≠ 0 ∨ u = v) = D := ⟨_, rfl⟩
  have T2 : Hid (∀ u, D u → s1.turn u ≠ 0) := Lib.hid (fun u hu => T1.out u (by rw [← hD] at hu; exact hu))
  rw [hD]
  clear hD T1
  go_enter Try.func20, Try.ntmps20
  go_wp2_with (first | (go_at_call 26; refine ce.mono ?_; rintro e w1 ⟨rfl, ⟨pv1, ov1, hh1⟩, hh2⟩; have P0 : Hid (∃ s', FromS B G (.slice ea n ec) n bt bl bn bd E D w1 s') := (Lib.hid ⟨s1, S1.out, ⟨_, _, hh1⟩, T2.out⟩); have Q0 : Hid (Below B w0 w1) := (Lib.hid (HW.out.trans hh2)); clear hh1 hh2))
  clear ce
  go_loopw [4, 5] (fun s4 s5 wr => Hid (∃ s', FromS B G (.slice ea n ec) n bt bl bn bd E D wr s') ∧ Hid (Below B w0 wr)) (fun _ _ wr => lst (fun m => ∃ s', FromS B G (.slice ea n ec) n bt bl bn bd E D wr s' ∧ s'.work n E = m))
  case atStart => exact ⟨P0, Q0⟩
  case round =>
    obtain ⟨hex, HBW⟩ := hrel
    obtain ⟨s2, ⟨hs2, ⟨pv2, ov2, hm2⟩, hd2⟩, hwk⟩ : ∃ s', FromS B G (.slice ea n ec) n bt bl bn bd E D wr s' ∧ s'.work n E = lst (fun m => ∃ s', FromS B G (.slice ea n ec) n bt bl bn bd E D wr s' ∧ s'.work n E = m) := lst_is (P := fun m => ∃ s', FromS B G (.slice ea n ec) n bt bl bn bd E D wr s' ∧ s'.work n E = m) (by obtain ⟨s', h⟩ := hex.out; exact ⟨_, s', h, rfl⟩)
    have HWK := Lib.hid hwk
    clear hwk hex
    obtain ⟨b1, b2, b3, b4⟩ := hs2.small hn
    have hBr : B ≤ wr.heap.size := by have := HBW.out.size; rw [HB0.out] at this; exact this
    have c6 := hm2.boxCell.2.2.2.2.2.2.1
    cases hpath : s2.path with
    | nil =>
      obtain ⟨pa, pc, rfl, _⟩ := hm2.pform
      have HM2 := Lib.hid hm2
      have HS2 := Lib.hid hs2
      have HD2 := Lib.hid hd2
      have HP2 := Lib.hid hpath
      rw [hpath] at c6
      clear hm2 hs2 hd2 hpath b4
      go_wp2_with fail
      go_end0
      exact ⟨rfl, ⟨s2, ⟨HS2.out, ⟨_, _, HM2.out⟩, HD2.out⟩, HP2.out⟩, HBW.out⟩
    | cons x q =>
      obtain ⟨r, c, rfl, hrc, htop⟩ := hm2.ptop hpath
      have hxo := hs2.inv.sub x (by rw [hpath]; exact List.mem_cons_self)
      have hx := hs2.inv.lt x hxo
      have hql : q.length + 1 ≤ 100000 := by rw [hpath] at b2; simpa using b2
      have hxl := hs2.inv.nle x hx
      have x0 : (0 : Int) ≤ (x : Int) := by omega
      have x1 : (x : Int) < (n : Int) := by omega
      obtain ⟨eb, eo, rfl, heb, hec, herow, hecap⟩ := (HE.out.belowB HB0.out HBW.out).at (k := x) (by rw [HKN.out]; exact hx)
      have hEx : (atV K x).2.1 = E x := by rw [← HEE.out]; rfl
      rw [hEx] at hec herow hecap
      generalize (atV K x).1 = xa at *
      generalize (atV K x).2.2 = xc at *
      have hdx := HDEG.out x hx
      have HM2 := Lib.hid hm2
      have HS2 := Lib.hid hs2
      have HD2 := Lib.hid hd2
      have HP2 := Lib.hid hpath
      have HRO := Lib.hid herow
      have HEX := Lib.hid hEx
      have HXO := Lib.hid hxo
      have HB4 := Lib.hid b4
      clear hm2 hs2 hd2 hpath herow hEx hxo b4
      go_wp2_with fail
      go_region
      have HM3 := Lib.hid HM2.out.drew
      have HB3 := Lib.hid (below_drew HBW.out)
      have hec3 : wr.drew.cell? ⟨eb, eo + x, none⟩ = some (.slice xa (E x).length xc) := hec
      have HR3 : Hid (Row wr.drew xa (E x)) := Lib.hid HRO.out
      have hB3 : B ≤ wr.drew.heap.size := hBr
      clear c6 htop hec HRO HM2 HBW hBr heb
      generalize World.drew wr = w1 at *
      have c0 := HM3.out.boxCell.1
      have c4 := HM3.out.boxCell.2.2.2.2.1
      have n1 := (HM3.out.nextAt hx).1
      by_cases hdone : s2.next x = (E x).length
      · have q1 : (((s2.next x : Nat) : Int) == (((E x).length : Nat) : Int)) = true := by rw [hdone]; exact beq_self_eq_true _
        have HDN := Lib.hid hdone
        clear hdone
        go_wp2_with fail
        go_region
        have HM4 := Lib.hid HM3.out.drew
        have HB4' := Lib.hid (below_drew HB3.out)
        have hB4 : B ≤ w1.drew.heap.size := hB3
        clear c0 c4 n1 hec3 HR3 HM3 HB3 hB3 q1
        generalize World.drew w1 = w2 at *
        have HHB : Hid (B ≤ w2.heap.size) := Lib.hid hB4
        by_cases hlow : s2.low x < s2.turn x
        · obtain ⟨y, q', rfl⟩ := HS2.out.inv.below HP2.out hlow
          have hy : y < n := HS2.out.inv.lt y (HS2.out.inv.sub y (by rw [HP2.out]; simp))
          have cl := leaveUp_calls HM4.out HHB.out HP2.out hx hy hn (by rw [HP2.out]; simp at hql ⊢; omega) HB4.out hlow
          have NX := Lib.hid (HS2.out.up HP2.out HDN.out hlow)
          clear hlow
          go_wp2_with (first | (go_at_call 27; refine cl.mono ?_; rintro e w3 ⟨rfl, ⟨pv3, ov3, hh1⟩, hh2⟩; have HX1 := Lib.hid hh1; have HX2 := Lib.hid hh2; clear hh1 hh2))
          clear cl
          have FS : Hid (FromS B G (.slice (some ⟨eb, eo, none⟩) n ec) n bt bl bn bd E D w3 _) := Lib.hid ⟨NX.out.1, ⟨_, _, HX1.out⟩, fun u hu => HD2.out u hu⟩
          rw [← HWK.out]
          exact ⟨⟨Lib.hid ⟨_, FS.out⟩, Lib.hid (HB4'.out.trans HX2.out)⟩, Nat.lt_of_le_of_lt (lst_le ⟨_, FS.out, rfl⟩) NX.out.2⟩
        · obtain ⟨pre, rest, hopn, hnp⟩ := HS2.out.inv.split HXO.out
          have hxl : s2.lead x < 0 := ((HS2.out.inv.mem x hx).1 HXO.out).2
          have cl := leaveClose_calls HM4.out HHB.out HP2.out hopn hnp HS2.out.inv.lt hxl hn (by rw [HP2.out]; simp; omega) b3 HB4.out hlow
          have NX := Lib.hid (HS2.out.close HP2.out HDN.out hlow hopn)
          clear hlow hopn hnp hxl
          go_wp2_with (first | (go_at_call 27; refine cl.mono ?_; rintro e w3 ⟨rfl, ⟨pv3, ov3, hh1⟩, hh2⟩; have HX1 := Lib.hid hh1; have HX2 := Lib.hid hh2; clear hh1 hh2))
          clear cl
          have FS : Hid (FromS B G (.slice (some ⟨eb, eo, none⟩) n ec) n bt bl bn bd E D w3 _) := Lib.hid ⟨NX.out.1, ⟨_, _, HX1.out⟩, fun u hu => HD2.out u hu⟩
          rw [← HWK.out]
          exact ⟨⟨Lib.hid ⟨_, FS.out⟩, Lib.hid (HB4'.out.trans HX2.out)⟩, Nat.lt_of_le_of_lt (lst_le ⟨_, FS.out, rfl⟩) NX.out.2⟩
      · have hlt : s2.next x < (E x).length := by omega
        have q1 : (((s2.next x : Nat) : Int) == (((E x).length : Nat) : Int)) = false := beq_eq_false_iff_ne.2 (by omega)
        clear hdone
        go_wp2_with fail
        go_region
        have HM4 := Lib.hid HM3.out.drew
        have HB4' := Lib.hid (below_drew HB3.out)
        have hB4 : B ≤ w1.drew.heap.size := hB3
        have hec4 : w1.drew.cell? ⟨eb, eo + x, none⟩ = some (.slice xa (E x).length xc) := hec3
        have HR4 : Hid (Row w1.drew xa (E x)) := Lib.hid HR3.out
        clear c0 c4 n1 hec3 HR3 HM3 HB3 hB3 q1
        generalize World.drew w1 = w2 at *
        have c0 := HM4.out.boxCell.1
        have c4 := HM4.out.boxCell.2.2.2.2.1
        have n1 := (HM4.out.nextAt hx).1
        obtain ⟨xb, xo, rfl, hxb, hxc⟩ := HR4.out.at hlt
        have HT : Hid ((E x)[s2.next x]? = some ((E x)[s2.next x]?.getD 0)) := Lib.hid (by rw [List.getElem?_eq_getElem hlt]; rfl)
        generalize (E x)[s2.next x]?.getD 0 = t at *
        have y0 : (0 : Int) ≤ ((s2.next x : Nat) : Int) := by omega
        have y1 : ((s2.next x : Nat) : Int) < (((E x).length : Nat) : Int) := by omega
        go_wp2_with fail
        go_region
        have HM5 := Lib.hid HM4.out.drew
        have HB5 := Lib.hid (below_drew HB4'.out)
        have hB5 : B ≤ w2.drew.heap.size := hB4
        clear c0 c4 n1 hec4 HR4 HM4 HB4' hB4 hxb hxc
        generalize World.drew w2 = w3 at *
        have c4 := HM5.out.boxCell.2.2.2.2.1
        have n1 := (HM5.out.nextAt hx).1
        have n2 := (HM5.out.nextAt hx).2
        have e1 : ((s2.next x + 1 : Nat) : Int) = ((s2.next x : Nat) : Int) + 1 := by omega
        have R := HM5.out.nextSet x (s2.next x + 1)
        rw [e1] at R
        have HM6 : Hid (SM B (w3.setCell ⟨bn, x, none⟩ (.int .i64 (((s2.next x : Nat) : Int) + 1))) G (.slice (some ⟨eb, eo, none⟩) n ec) n bt bl bn bd _ ov2 (s2.bump x)) := Lib.hid R.1
        have HB6 := Lib.hid (HB5.out.trans R.2)
        have hB6 : B ≤ (w3.setCell ⟨bn, x, none⟩ (.int .i64 (((s2.next x : Nat) : Int) + 1))).heap.size := by simp; exact hB5
        have cf := follow_calls HM6.out hB6 hx t hn b1 b2 b3 HB4.out
        have NX := Lib.hid (HS2.out.edge HP2.out HT.out)
        clear R HM5 HB5 hB5
        go_wp2_with (first | (go_at_call 28; refine cf.mono ?_; rintro e w4 ⟨rfl, ⟨pv3, ov3, hh1⟩, hh2⟩; have HX1 := Lib.hid hh1; have HX2 := Lib.hid hh2; clear hh1 hh2))
        clear cf
        have FS : Hid (FromS B G (.slice (some ⟨eb, eo, none⟩) n ec) n bt bl bn bd E D w4 _) := Lib.hid ⟨NX.out.1, ⟨_, _, HX1.out⟩, fun u hu => follow_turn (HD2.out u hu)⟩
        rw [← HWK.out]
        exact ⟨⟨Lib.hid ⟨_, FS.out⟩, Lib.hid (HB6.out.trans HX2.out)⟩, Nat.lt_of_le_of_lt (lst_le ⟨_, FS.out, rfl⟩) NX.out.2⟩
end Go.Proofs.Ytfpocoaddmgakaa
