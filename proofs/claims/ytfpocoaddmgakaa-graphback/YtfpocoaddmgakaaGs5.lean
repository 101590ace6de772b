/- Contract of leave where the last node leads its component. -/
import Derived.Test.YtfpocoaddmgakaaGs4
namespace Go.Proofs.Ytfpocoaddmgakaa
open Go.RowKit
set_option linter.unusedVariables false
set_option linter.unusedSimpArgs false

/-- How long the slice in a cell is. -/
def sliceLen (w : World) (a : Addr) : Nat := match w.cell? a with | some (.slice _ n _) => n | _ => 0
theorem sliceLen_is {w : World} {a : Addr} {b : Option Addr} {n c : Nat} (h : w.cell? a = some (.slice b n c)) : sliceLen w a = n := by unfold sliceLen; rw [h]

/-- While the open nodes are taken off. -/
def PopAt (B : Nat) (w : World) (G : Nat) (ev : Value) (n bt bl bn bd : Nat) (s : TS) (v : Nat) (pre rest : List Nat) (wr : World) : Prop :=
  Below B w wr ∧ ∃ pv ov p1 p2, (pre = p1 ++ p2 ∧ SM B wr G ev n bt bl bn bd pv ov { s with opn := p2 ++ v :: rest, lead := setAll s.lead p1 v }) ∨ SM B wr G ev n bt bl bn bd pv ov { s with opn := rest, lead := setAll s.lead (pre ++ [v]) v }

set_option maxRecDepth 100000 in
set_option maxHeartbeats 4000000 in
theorem leaveClose_calls {B : Nat} {w : World} {G : Nat} {ev : Value} {n bt bl bn bd : Nat} {pv ov : Value} {s : TS} (h : SM B w G ev n bt bl bn bd pv ov s) (hB : B ≤ w.heap.size) {v : Nat} {q pre rest : List Nat} (hpath : s.path = v :: q) (hopn : s.opn = pre ++ v :: rest) (hvp : v ∉ pre) (hlt : ∀ x ∈ s.opn, x < n) (hvl : s.lead v < 0) (hn : n ≤ 100000) (hp : s.path.length ≤ 100000) (ho : s.opn.length ≤ 100000) (hle : ∀ u, u < n → s.turn u ≤ 100000 ∧ s.low u ≤ 100000) (hlow : ¬ s.low v < s.turn v) :
    Calls Try.prog 27 #[.pointer (some ⟨G, 0, none⟩), .int .i64 v] w (SMRet B w G ev n bt bl bn bd { s with path := q, opn := rest, lead := setAll s.lead (pre ++ [v]) v }) := by
  obtain ⟨r, c, rfl, hc, htop⟩ := h.ptop hpath
  have H0 := Lib.hid h
  have hv : v < n := hlt v (by rw [hopn]; simp)
  have c6 := h.boxCell.2.2.2.2.2.2.1
  have f6 := h.boxCell.2.2.2.2.2.2.2.2 6
  have R := h.pathDrop hpath
  have H1 := Lib.hid R.1
  have B1 := Lib.hid R.2
  have hql : q.length + 1 ≤ 100000 := by rw [hpath] at hp; simpa using hp
  have v0 : (0 : Int) ≤ (v : Int) := by omega
  have v1 : (v : Int) < (n : Int) := by omega
  have t0 : decide ((s.low v : Int) < (s.turn v : Int)) = false := decide_eq_false (by omega)
  have HOP := Lib.hid hopn
  have HLT : Hid (∀ x ∈ pre ++ v :: rest, x < n) := Lib.hid (by rw [← hopn]; exact hlt)
  have HLN : Hid ((pre ++ v :: rest).length ≤ 100000) := Lib.hid (by rw [← hopn]; exact ho)
  have HVP := Lib.hid hvp
  have HVL := Lib.hid hvl
  clear R h hpath hopn hlt ho hvp hvl hp
  go_enter Try.func27, Try.ntmps27
  go_wp2_with fail
  go_region
  have H2 := Lib.hid H1.out.drew
  have B2 := Lib.hid (below_drew B1.out)
  clear c6 f6 htop H1 B1 H0
  generalize World.drew (World.setCell w _ _) = w2 at *
  have c2 := H2.out.boxCell.2.2.1
  have c3 := H2.out.boxCell.2.2.2.1
  have l1 := (H2.out.lowAt hv).1
  have t1 := (H2.out.turnAt hv).1
  have ht9 := (hle v hv).1
  have hl9 := (hle v hv).2
  clear hle
  go_wp2_with fail
  go_region
  have H3 := Lib.hid H2.out.drew
  have B3 := Lib.hid (below_drew B2.out)
  clear c2 c3 l1 t1 H2 B2
  generalize World.drew w2 = w3 at *
  have P0 : Hid (PopAt B w G ev n bt bl bn bd { s with path := q } v pre rest w3) := Lib.hid ⟨B3.out, _, _, [], pre, .inl ⟨rfl, by rw [setAll_nil, ← HOP.out]; exact H3.out⟩⟩
  clear H3 B3
  go_wp2_with fail
  go_loopw [5] (fun s5 wr => Hid (PopAt B w G ev n bt bl bn bd { s with path := q } v pre rest wr)) (fun _ wr => sliceLen wr ⟨G, 7, none⟩)
  case atStart => exact P0
  case round =>
    obtain ⟨hbel, pv2, ov2, p1, p2, hS | hS⟩ := hrel.out
    · obtain ⟨hpre, hS⟩ := hS
      have hvp1 : v ∉ p1 := fun hh => HVP.out (by rw [hpre]; exact List.mem_append.2 (.inl hh))
      have d5 := hS.boxCell.2.2.2.2.2.1
      have d1 : wr.cell? ⟨bd, v, none⟩ = some (.int .i64 (s.lead v)) := by
        have := (hS.leadAt hv).1
        rw [show ({ s with path := q, opn := p2 ++ v :: rest, lead := setAll s.lead p1 v } : TS).lead v = setAll s.lead p1 v v from rfl, setAll_out hvp1] at this
        exact this
      have q1 : decide (s.lead v < 0) = true := decide_eq_true HVL.out
      obtain ⟨x, p3, hx⟩ : ∃ x p3, p2 ++ v :: rest = x :: p3 := by cases p2 with | nil => exact ⟨_, _, rfl⟩ | cons a l => exact ⟨_, _, rfl⟩
      have hxn : x < n := HLT.out x (by rw [hpre, List.append_assoc, hx]; simp)
      have hS' : SM B wr G ev n bt bl bn bd pv2 ov2 { s with path := q, opn := x :: p3, lead := setAll s.lead p1 v } := by rw [← hx]; exact hS
      obtain ⟨r7, c7v, rfl, hc7, htop7⟩ := hS'.otop rfl
      have hlen : p3.length + 1 ≤ 100000 := by
        have h1 := HLN.out
        have h2 : (p2 ++ v :: rest).length = (x :: p3).length := by rw [hx]
        rw [hpre, List.append_assoc, List.length_append, h2] at h1
        simp at h1; omega
      have c7 := hS'.boxCell.2.2.2.2.2.2.2.1
      have f7 := hS'.boxCell.2.2.2.2.2.2.2.2 7
      have x0 : (0 : Int) ≤ (x : Int) := by omega
      have x1 : (x : Int) < (n : Int) := by omega
      have HS := Lib.hid hS'
      have HBW := Lib.hid hbel
      have HPRE := Lib.hid hpre
      have HX := Lib.hid hx
      have ML : Hid (sliceLen wr ⟨G, 7, none⟩ = p3.length + 1) := Lib.hid (sliceLen_is c7)
      try simp only [List.length_cons] at c7
      clear hS hS' hrel hbel hpre hx hvp1
      go_wp2_with fail
      go_region
      have HS2 := Lib.hid HS.out.drew
      have HB2 := Lib.hid (below_drew HBW.out)
      clear c7 f7 htop7 d5 d1
      have R := HS2.out.opnDrop rfl
      have c7 := HS2.out.boxCell.2.2.2.2.2.2.2.1
      have f7 := HS2.out.boxCell.2.2.2.2.2.2.2.2 7
      try simp only [List.length_cons] at c7
      have HS3 := Lib.hid R.1.drew
      have HB3 := Lib.hid (below_drew (HB2.out.trans R.2))
      clear R HS2 HB2 HS HBW
      go_wp2_with fail
      generalize World.drew wr = wm at *
      go_region
      generalize World.drew (World.setCell wm _ _) = wn at *
      clear c7 f7
      have d5 := HS3.out.boxCell.2.2.2.2.2.1
      have d1 := (HS3.out.leadAt hxn).1
      have d2 := (HS3.out.leadAt hxn).2
      have R := HS3.out.leadSet x (v : Int)
      have HS4 := Lib.hid R.1
      have HB4 := Lib.hid (HB3.out.trans R.2)
      clear R HB3
      go_wp2_with fail
      clear d5 d1 d2
      generalize World.setCell wn _ _ = wz at *
      refine ⟨Lib.hid ⟨HB4.out, ?_⟩, ?_⟩
      · have hS4 : SM B wz G ev n bt bl bn bd pv2 (.slice (some ⟨r7, 0, none⟩) p3.length c7v) { s with path := q, opn := p3, lead := setAll s.lead (p1 ++ [x]) v } := by
          have := HS4.out
          rw [show (upd (setAll s.lead p1 v) x (v : Int)) = setAll s.lead (p1 ++ [x]) v from setAll_push _ _ _ _] at this
          exact this
        have hX := HX.out
        cases p2 with
        | nil =>
          obtain ⟨rfl, rfl⟩ : v = x ∧ rest = p3 := by simpa using hX
          have e : pre = p1 := by have := HPRE.out; simpa using this
          exact ⟨_, _, [], [], .inr (by rw [e]; exact hS4)⟩
        | cons a l =>
          obtain ⟨rfl, rfl⟩ : a = x ∧ l ++ v :: rest = p3 := by simpa using hX
          exact ⟨_, _, p1 ++ [a], l, .inl ⟨by rw [HPRE.out, List.append_assoc]; rfl, hS4⟩⟩
      · rw [ML.out, sliceLen_is HS4.out.boxCell.2.2.2.2.2.2.2.1]; omega
    · have d5 := hS.boxCell.2.2.2.2.2.1
      have d1 : wr.cell? ⟨bd, v, none⟩ = some (.int .i64 (v : Int)) := by
        have := (hS.leadAt hv).1
        rw [show ({ s with path := q, opn := rest, lead := setAll s.lead (pre ++ [v]) v } : TS).lead v = setAll s.lead (pre ++ [v]) v v from rfl, setAll_in (by simp)] at this
        exact this
      have q1 : decide ((v : Int) < 0) = false := decide_eq_false (by omega)
      have HS := Lib.hid hS
      have HBW := Lib.hid hbel
      clear hS hrel hbel
      go_wp2_with fail
      go_end0
      exact ⟨rfl, ⟨_, _, HS.out⟩, HBW.out⟩
end Go.Proofs.Ytfpocoaddmgakaa
