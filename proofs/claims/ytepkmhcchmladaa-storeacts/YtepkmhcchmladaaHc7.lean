import Derived.Test.YtepkmhcchmladaaHc5
import Derived.WalkSmall
import Derived.Test.YtepkmhcchmladaaHc4
/- Contract of down: the entry at an index is moved away from the root. -/
namespace Go.Proofs.Ytepkmhcchmladaa
open Go.RowKit
set_option linter.unusedVariables false
set_option linter.unusedSimpArgs false

/-- f is the least of i and its kids below c. -/
def LeastOf (lt : (Int × Int) → (Int × Int) → Bool) (fs : List (Int × Int)) (i c f : Nat) : Prop :=
  (f = i ∨ (2 * i + 1 ≤ f ∧ f < c ∧ lt (atE fs f) (atE fs i) = true)) ∧ f < fs.length ∧ ∀ j, 2 * i + 1 ≤ j → j < c → j < fs.length → lt (atE fs j) (atE fs f) = false
theorem least_start {lt : (Int × Int) → (Int × Int) → Bool} {fs : List (Int × Int)} {i : Nat} (h : i < fs.length) : LeastOf lt fs i (2 * i + 1) i := ⟨.inl rfl, h, fun j h1 h2 => by omega⟩
theorem least_yes {lt : (Int × Int) → (Int × Int) → Bool} (O : Ord lt) {fs : List (Int × Int)} {i c f : Nat} (h : LeastOf lt fs i c f) (hc : 2 * i + 1 ≤ c) (hl : c < fs.length) (hb : lt (atE fs c) (atE fs f) = true) : LeastOf lt fs i (c + 1) c := by
  refine ⟨.inr ⟨hc, by omega, ?_⟩, hl, fun j h1 h2 h3 => ?_⟩
  · rcases h.1 with e | ⟨_, _, h'⟩
    · rw [e] at hb; exact hb
    · exact O.trans _ _ _ hb h'
  · by_cases e : j = c
    · rw [e]; exact O.irrefl _
    · have h4 := h.2.2 j h1 (by omega) h3
      cases h5 : lt (atE fs j) (atE fs c) with
      | false => rfl
      | true => have := O.trans _ _ _ h5 hb; rw [h4] at this; cases this
theorem least_no {lt : (Int × Int) → (Int × Int) → Bool} {fs : List (Int × Int)} {i c f : Nat} (h : LeastOf lt fs i c f) (hb : lt (atE fs c) (atE fs f) = false) : LeastOf lt fs i (c + 1) f := by
  refine ⟨?_, h.2.1, fun j h1 h2 h3 => ?_⟩
  · rcases h.1 with e | ⟨h1, h2, h3⟩
    · exact .inl e
    · exact .inr ⟨h1, by omega, h3⟩
  · by_cases e : j = c
    · rw [e]; exact hb
    · exact h.2.2 j h1 (by omega) h3
/-- At the end all kids are looked at. -/
theorem least_all {lt : (Int × Int) → (Int × Int) → Bool} {fs : List (Int × Int)} {i c f : Nat} (h : LeastOf lt fs i c f) (hc : c = 2 * i + 3 ∨ fs.length ≤ c) : ∀ j, 0 < j → j < fs.length → (j - 1) / 2 = i → lt (atE fs j) (atE fs f) = false := by
  intro j h0 h1 h2
  exact h.2.2 j (by omega) (by omega) h1

set_option maxRecDepth 100000 in
set_option maxHeartbeats 4000000 in
theorem down_calls {fv : Value} {lt : (Int × Int) → (Int × Int) → Bool} (O : Ord lt) (B : BeforeIs fv lt) {w : World} {g : Nat} {lv : Value} {es : List (Int × Int)} {p : Int} (h : HeapAt w g fv lv es p) (i : Nat) (hi : i < es.length) (hdn : DownOK lt es i) (hlen : es.length ≤ 1000000) :
    Calls Try.prog 59 #[.pointer (some ⟨g, 0, none⟩), .int .i64 i] w (Moved lt w g fv lv es p) := by
  obtain ⟨r, cap, hlv, hlc, hcm, hrg, hrl⟩ := h.form' (by omega)
  unfold maxLen at hcm
  obtain ⟨n, hn⟩ : ∃ n, es.length = n := ⟨_, rfl⟩
  rw [hn] at hlv hlc hlen hi
  subst hlv
  have HN := Lib.hid hn
  clear hn
  have H0 := Lib.hid (show HeapAt w g fv (.slice (some ⟨r, 0, none⟩) n cap) es p ∧ DownOK lt es i from ⟨h, hdn⟩)
  clear h hdn
  go_enter Try.func59, Try.ntmps59
  go_wp2_with fail
  go_loopw [1] (fun s wr => ∃ (k : Nat) (fs : List (Int × Int)), k < n ∧ s = .int .i64 k ∧ Hid (fs.length = n) ∧ Hid (HeapAt wr g fv (.slice (some ⟨r, 0, none⟩) n cap) fs p) ∧ Hid (DownOK lt fs k) ∧ Hid (fs.Perm es) ∧ Hid (Keeps (fun b => r = b) w wr))
    (fun s _ => n - (intOf s).toNat)
  case atStart => exact ⟨i, es, hi, rfl, HN, Lib.hid H0.out.1, Lib.hid H0.out.2, Lib.hid (List.Perm.refl _), Lib.hid (Keeps.refl _ _)⟩
  case round =>
    obtain ⟨k, fs, hk, rfl, HL, HH, HU, HP, HK⟩ := hrel
    obtain ⟨wm, rfl⟩ : ∃ x, x = wr := ⟨wr, rfl⟩
    go_wp2_with fail
    go_loopw [4, 5] (fun s4 s5 wv => ∃ f c : Nat, s4 = .int .i64 f ∧ s5 = .int .i64 c ∧ 2 * k + 1 ≤ c ∧ c ≤ 2 * k + 3 ∧ Hid (LeastOf lt fs k c f) ∧ Hid (Below wm.heap.size wm wv)) (fun _ s5 _ => 2 * k + 3 - (intOf s5).toNat)
    case atStart => exact ⟨k, 2 * k + 1, rfl, by go_num, by omega, by omega, Lib.hid (least_start (by rw [HL.out]; exact hk)), Lib.hid (Below.refl _ _)⟩
    case round =>
      obtain ⟨f, c, rfl, rfl, hc1, hc2, HLe, HBe⟩ := hrel
      obtain ⟨_, c1, _⟩ := (HH.out.below HBe.out).cell
      have hfn : f < n := by have := HLe.out.2.1; rw [HL.out] at this; exact this
      by_cases h3 : c = 2 * k + 3
      · have t1 : decide ((c : Int) ≤ 2 * (k : Int) + 2) = false := decide_eq_false (by omega)
        have HA := Lib.hid (least_all HLe.out (.inl h3))
        have h3' : 2 * k + 3 ≤ c := by omega
        clear h3
        by_cases hfk : f = k
        · subst hfk
          go_wp2_with fail
          go_end0
          exact ⟨rfl, fs, HH.out.below HBe.out, down_stop HU.out HA.out, HP.out, (HK.out.trans (Keeps.of_below HBe.out)).mono (fun b _ e => by simp [Value.ownBlock, e])⟩
        · have t9 : ((f : Int) == (k : Int)) = false := beq_eq_false_iff_ne.2 (by omega)
          go_wp2_with fail
          have H1 := HH.out.below HBe.out
          have hk' : k < fs.length := by rw [HL.out]; exact hk
          have hq' : f < fs.length := by rw [HL.out]; omega
          have H2 := H1
          rw [← HL.out] at H2
          obtain ⟨fk1, fk2⟩ := flat_at hk'
          obtain ⟨fq1, fq2⟩ := flat_at hq'
          have dk1 := H2.row.cellAt (k * 2) (by omega)
          have dk2 := H2.row.cellAt (k * 2 + 1) (by omega)
          have dq1 := H2.row.cellAt (f * 2) (by omega)
          have dq2 := H2.row.cellAt (f * 2 + 1) (by omega)
          rw [fk1] at dk1
          rw [fk2] at dk2
          rw [fq1] at dq1
          rw [fq2] at dq2
          have zk1 := H2.row.frozenAt (k * 2)
          have zk2 := H2.row.frozenAt (k * 2 + 1)
          have zq1 := H2.row.frozenAt (f * 2)
          have zq2 := H2.row.frozenAt (f * 2 + 1)
          have SW := Lib.hid (heap_swap H2 k f hk' hq')
          clear H1 H2 fk1 fk2 fq1 fq2
          obtain ⟨x1, hx1⟩ : ∃ x, (atE fs k).1 = x := ⟨_, rfl⟩
          obtain ⟨x2, hx2⟩ : ∃ x, (atE fs k).2 = x := ⟨_, rfl⟩
          obtain ⟨y1, hy1⟩ : ∃ x, (atE fs f).1 = x := ⟨_, rfl⟩
          obtain ⟨y2, hy2⟩ : ∃ x, (atE fs f).2 = x := ⟨_, rfl⟩
          rw [hx1] at dk1
          rw [hx2] at dk2
          rw [hy1] at dq1
          rw [hy2] at dq2
          rw [hx1, hx2, hy1, hy2] at SW
          clear hx1 hx2 hy1 hy2 hk' hq'
          have bk : (k : Int) < (n : Int) := by omega
          have bk0 : (0 : Int) ≤ (k : Int) := by omega
          have bq : (f : Int) < (n : Int) := by omega
          have bq0 : (0 : Int) ≤ (f : Int) := by omega
          have n1 : ¬ k = f := by omega
          have n3 : ¬ k * 2 = f * 2 + 1 := by omega
          have n4 : ¬ f * 2 = k * 2 + 1 := by omega
          have n5 : ¬ k * 2 + 1 = f * 2 := by omega
          have n6 : ¬ f * 2 + 1 = k * 2 := by omega
          go_region
          have KS := Lib.hid (((((HK.out.trans (Keeps.of_below HBe.out)).setCell (p := ⟨r, k * 2, none⟩) rfl (.int .i64 y1)).setCell (p := ⟨r, k * 2 + 1, none⟩) rfl (.int .i64 y2)).setCell (p := ⟨r, f * 2, none⟩) rfl (.int .i64 x1)).setCell (p := ⟨r, f * 2 + 1, none⟩) rfl (.int .i64 x2))
          have hkf : k < f := by
            rcases HLe.out.1 with e | ⟨e, _, _⟩
            · exact absurd e hfk
            · omega
          have HD := Lib.hid (show DownOK lt (swpL fs k f) f from by
            rcases HLe.out.1 with e | ⟨e1, e2, e3⟩
            · exact absurd e hfk
            · exact down_step O HU.out (by omega) (by rw [HL.out]; exact hfn) (by omega) e3 HA.out)
          clear dk1 dk2 dq1 dq2 zk1 zk2 zq1 zq2 c1
          generalize World.setCell (World.setCell _ _ _) _ _ = W at *
          go_wp2_with fail
          go_roundw
          case rel =>
            refine ⟨f, swpL fs k f, by omega, rfl, Lib.hid (by rw [swpL_len]; exact HL.out), Lib.hid ?_, HD, Lib.hid ?_, Lib.hid ?_⟩
            · have := SW.out.drewN 1; rw [HL.out] at this; exact this
            · exact (perm_swp (by rw [HL.out]; exact hk) (by rw [HL.out]; omega)).trans HP.out
            · exact ⟨KS.out.os, KS.out.tape, KS.out.output, KS.out.size, KS.out.block⟩
          case measure => simp [intOf]; omega
      · have t1 : (c : Int) ≤ 2 * (k : Int) + 2 := by omega
        by_cases h4 : c < n
        · obtain ⟨b, hb⟩ : ∃ b, lt (atE fs c) (atE fs f) = b := ⟨_, rfl⟩
          have HB := Lib.hid hb
          have cb : Calls Try.prog 78 #[.pointer (some ⟨g, 0, none⟩), .int .i64 c, .int .i64 f] wr fun e w' => e = .returned (.bool b) ∧ Below wr.heap.size wr w' := by
            rw [← hb]; exact B wr g _ fs p (HH.out.below HBe.out) c f (by rw [HL.out]; exact h4) (by rw [HL.out]; exact hfn)
          clear hb
          cases b
          · go_wp2_with (first | (go_at_call 78; refine cb.mono ?_; rintro e w' ⟨rfl, hbel⟩; have BE := Lib.hid hbel; clear hbel))
            go_roundw
            case rel => exact ⟨f, c + 1, rfl, by go_num, by omega, by omega, Lib.hid (least_no HLe.out HB.out), Lib.hid (HBe.out.trans (BE.out.mono HBe.out.size))⟩
            case measure => simp [intOf]; omega
          · go_wp2_with (first | (go_at_call 78; refine cb.mono ?_; rintro e w' ⟨rfl, hbel⟩; have BE := Lib.hid hbel; clear hbel))
            go_roundw
            case rel => exact ⟨c, c + 1, rfl, by go_num, by omega, by omega, Lib.hid (least_yes O HLe.out hc1 (by rw [HL.out]; exact h4) HB.out), Lib.hid (HBe.out.trans (BE.out.mono HBe.out.size))⟩
            case measure => simp [intOf]; omega
        · have HA := Lib.hid (least_all HLe.out (.inr (by rw [HL.out]; omega)))
          have t2 : decide (c < n) = false := decide_eq_false (by omega)
          by_cases hfk : f = k
          · subst hfk
            go_wp2_with fail
            go_end0
            exact ⟨rfl, fs, HH.out.below HBe.out, down_stop HU.out HA.out, HP.out, (HK.out.trans (Keeps.of_below HBe.out)).mono (fun b _ e => by simp [Value.ownBlock, e])⟩
          · have t9 : ((f : Int) == (k : Int)) = false := beq_eq_false_iff_ne.2 (by omega)
            go_wp2_with fail
            have H1 := HH.out.below HBe.out
            have hk' : k < fs.length := by rw [HL.out]; exact hk
            have hq' : f < fs.length := by rw [HL.out]; omega
            have H2 := H1
            rw [← HL.out] at H2
            obtain ⟨fk1, fk2⟩ := flat_at hk'
            obtain ⟨fq1, fq2⟩ := flat_at hq'
            have dk1 := H2.row.cellAt (k * 2) (by omega)
            have dk2 := H2.row.cellAt (k * 2 + 1) (by omega)
            have dq1 := H2.row.cellAt (f * 2) (by omega)
            have dq2 := H2.row.cellAt (f * 2 + 1) (by omega)
            rw [fk1] at dk1
            rw [fk2] at dk2
            rw [fq1] at dq1
            rw [fq2] at dq2
            have zk1 := H2.row.frozenAt (k * 2)
            have zk2 := H2.row.frozenAt (k * 2 + 1)
            have zq1 := H2.row.frozenAt (f * 2)
            have zq2 := H2.row.frozenAt (f * 2 + 1)
            have SW := Lib.hid (heap_swap H2 k f hk' hq')
            clear H1 H2 fk1 fk2 fq1 fq2
            obtain ⟨x1, hx1⟩ : ∃ x, (atE fs k).1 = x := ⟨_, rfl⟩
            obtain ⟨x2, hx2⟩ : ∃ x, (atE fs k).2 = x := ⟨_, rfl⟩
            obtain ⟨y1, hy1⟩ : ∃ x, (atE fs f).1 = x := ⟨_, rfl⟩
            obtain ⟨y2, hy2⟩ : ∃ x, (atE fs f).2 = x := ⟨_, rfl⟩
            rw [hx1] at dk1
            rw [hx2] at dk2
            rw [hy1] at dq1
            rw [hy2] at dq2
            rw [hx1, hx2, hy1, hy2] at SW
            clear hx1 hx2 hy1 hy2 hk' hq'
            have bk : (k : Int) < (n : Int) := by omega
            have bk0 : (0 : Int) ≤ (k : Int) := by omega
            have bq : (f : Int) < (n : Int) := by omega
            have bq0 : (0 : Int) ≤ (f : Int) := by omega
            have n1 : ¬ k = f := by omega
            have n3 : ¬ k * 2 = f * 2 + 1 := by omega
            have n4 : ¬ f * 2 = k * 2 + 1 := by omega
            have n5 : ¬ k * 2 + 1 = f * 2 := by omega
            have n6 : ¬ f * 2 + 1 = k * 2 := by omega
            go_region
            have KS := Lib.hid (((((HK.out.trans (Keeps.of_below HBe.out)).setCell (p := ⟨r, k * 2, none⟩) rfl (.int .i64 y1)).setCell (p := ⟨r, k * 2 + 1, none⟩) rfl (.int .i64 y2)).setCell (p := ⟨r, f * 2, none⟩) rfl (.int .i64 x1)).setCell (p := ⟨r, f * 2 + 1, none⟩) rfl (.int .i64 x2))
            have hkf : k < f := by
              rcases HLe.out.1 with e | ⟨e, _, _⟩
              · exact absurd e hfk
              · omega
            have HD := Lib.hid (show DownOK lt (swpL fs k f) f from by
              rcases HLe.out.1 with e | ⟨e1, e2, e3⟩
              · exact absurd e hfk
              · exact down_step O HU.out (by omega) (by rw [HL.out]; exact hfn) (by omega) e3 HA.out)
            clear dk1 dk2 dq1 dq2 zk1 zk2 zq1 zq2 c1
            generalize World.setCell (World.setCell _ _ _) _ _ = W at *
            go_wp2_with fail
            go_roundw
            case rel =>
              refine ⟨f, swpL fs k f, by omega, rfl, Lib.hid (by rw [swpL_len]; exact HL.out), Lib.hid ?_, HD, Lib.hid ?_, Lib.hid ?_⟩
              · have := SW.out.drewN 1; rw [HL.out] at this; exact this
              · exact (perm_swp (by rw [HL.out]; exact hk) (by rw [HL.out]; omega)).trans HP.out
              · exact ⟨KS.out.os, KS.out.tape, KS.out.output, KS.out.size, KS.out.block⟩
            case measure => simp [intOf]; omega
end Go.Proofs.Ytepkmhcchmladaa

/- Contract of Pop. -/
namespace Go.Proofs.Ytepkmhcchmladaa
open Go.RowKit
set_option linter.unusedVariables false
set_option linter.unusedSimpArgs false

def Nothing (w : World) (e : Ending) (w' : World) : Prop := e = .returned (.tuple #[]) ∧ w = w'
set_option maxRecDepth 100000 in
set_option maxHeartbeats 1000000 in
theorem down_empty {w : World} {g : Nat} {a : Option Addr} {cap : Nat} (c1 : w.cell? ⟨g, 1, none⟩ = some (.slice a 0 cap)) :
    Calls Try.prog 59 #[.pointer (some ⟨g, 0, none⟩), .int .i64 0] w (Nothing w) := by
  go_enter Try.func59, Try.ntmps59
  go_wp2_with fail
  go_loopw [1] (fun s wr => s = .int .i64 0 ∧ w = wr) (fun _ _ => 0)
  case atStart => exact ⟨rfl, rfl⟩
  case round =>
    obtain ⟨rfl, rfl⟩ := hrel
    obtain ⟨wm, hwm⟩ : ∃ x, x = w := ⟨w, rfl⟩
    rw [← hwm] at c1
    go_wp2_with fail
    go_loopw [4, 5] (fun s4 s5 wv => s4 = .int .i64 0 ∧ s5 = .int .i64 1 ∧ w = wv) (fun _ _ _ => 0)
    case atStart => exact ⟨rfl, rfl, rfl⟩
    case round =>
      obtain ⟨rfl, rfl, rfl⟩ := hrel
      subst hwm
      go_wp2_with fail
      go_end0
      exact ⟨rfl, rfl⟩

theorem pop_none {w : World} {g : Nat} {fv lv : Value} {p : Int} (h : HeapAt w g fv lv [] p) :
    Calls Try.prog 33 #[.pointer (some ⟨g, 0, none⟩)] w fun e w' => e = .returned (.tuple #[.int .i64 0, .bool false]) ∧ w = w' := by
  obtain ⟨c0, c1, c2⟩ := h.cell
  obtain ⟨a, cap, rfl⟩ := h.form
  clear h
  go_enter Try.func33, Try.ntmps33
  go_wp2_with fail
  go_ret2
  exact ⟨rfl, rfl⟩

theorem heap_popped {w : World} {g r cap m : Nat} {fv : Value} {es : List (Int × Int)} {p : Int} (h : HeapAt w g fv (.slice (some ⟨r, 0, none⟩) es.length cap) es p) (hm : es.length = m + 1) :
    HeapAt (((((w.setCell ⟨r, 0, none⟩ (.int .i64 (atE es m).1)).setCell ⟨r, 1, none⟩ (.int .i64 (atE es m).2)).setCell ⟨r, m * 2, none⟩ (.int .i64 0)).setCell ⟨r, m * 2 + 1, none⟩ (.int .i64 0)).setCell ⟨g, 1, none⟩ (.slice (some ⟨r, 0, none⟩) m cap)) g fv (.slice (some ⟨r, 0, none⟩) m cap) (popL es) p ∧
    Keeps (fun b => b = g ∨ r = b) w (((((w.setCell ⟨r, 0, none⟩ (.int .i64 (atE es m).1)).setCell ⟨r, 1, none⟩ (.int .i64 (atE es m).2)).setCell ⟨r, m * 2, none⟩ (.int .i64 0)).setCell ⟨r, m * 2 + 1, none⟩ (.int .i64 0)).setCell ⟨g, 1, none⟩ (.slice (some ⟨r, 0, none⟩) m cap)) := by
  have hgr : g ≠ r := fun e => h.ne (by simp [Value.ownBlock, e])
  have K4 := ((((Keeps.refl (fun b => b = g ∨ r = b) w).setCell (p := ⟨r, 0, none⟩) (.inr rfl) (.int .i64 (atE es m).1)).setCell (p := ⟨r, 1, none⟩) (.inr rfl) (.int .i64 (atE es m).2)).setCell (p := ⟨r, m * 2, none⟩) (.inr rfl) (.int .i64 0)).setCell (p := ⟨r, m * 2 + 1, none⟩) (.inr rfl) (.int .i64 0)
  refine ⟨?_, K4.setCell (p := ⟨g, 1, none⟩) (.inl rfl) _⟩
  have h1 := (h.row.stored 0 (.int .i64 (atE es m).1)).1
  have h2 := (h1.stored 1 (.int .i64 (atE es m).2)).1
  have h3 := (h2.stored (m * 2) (.int .i64 0)).1
  have h4 := (h3.stored (m * 2 + 1) (.int .i64 0)).1
  have e1 := flat_set (es := es) (i := 0) (atE es m) (by omega)
  rw [Nat.zero_mul, Nat.zero_add] at e1
  rw [e1] at h4
  have e2 := flat_set (es := es.set 0 (atE es m)) (i := m) (0, 0) (by simp; omega)
  rw [e2] at h4
  have e3 : (es.set 0 (atE es m)).set m (0, 0) = popL es ++ [(0, 0)] := by
    unfold popL
    rw [hm, Nat.add_sub_cancel]
    apply List.ext_getElem
    · simp; omega
    · intro i hi1 hi2
      simp at hi1
      by_cases e : i = m
      · subst e; simp [hm]
      · rw [List.getElem_append_left (by simp; omega)]
        rw [List.getElem_set_ne (fun h => e h.symm)]
        simp
  rw [e3, flat_append, hm] at h4
  have h5 := ownsRow_pop (xs := flat (popL es)) (last := flat [(0, 0)]) (by rw [flat_len, popL_len, hm]; rfl) h4
  have hpl : (popL es).length = m := by rw [popL_len, hm]; rfl
  have h6 := owns_keeps (N := fun b => b = g) h5 ((Keeps.refl (fun b => b = g) _).setCell (p := ⟨g, 1, none⟩) rfl (.slice (some ⟨r, 0, none⟩) m cap)) (fun b hb e => hgr (by simp [Value.ownBlock] at hb; omega))
  refine ⟨?_, by rw [hpl]; exact h6, fun e => hgr (by simp [Value.ownBlock] at e; exact e.symm)⟩
  refine blk_put1 (b := .slice (some ⟨r, 0, none⟩) es.length cap) ?_
  rw [Below.heap_setCell _ _ _ g hgr, Below.heap_setCell _ _ _ g hgr, Below.heap_setCell _ _ _ g hgr, Below.heap_setCell _ _ _ g hgr]
  exact h.blk
theorem HeapAt.alloc {w : World} {g : Nat} {fv lv : Value} {es : List (Int × Int)} {p : Int} (h : HeapAt w g fv lv es p) (o : Obj) : HeapAt (w.alloc o) g fv lv es p := h.below ((Below.refl _ _).alloc (Nat.le_refl _) _)

/-- What a pop leaves: the least entry is handed out, the others stay. -/
def Popped (lt : (Int × Int) → (Int × Int) → Bool) (w : World) (g : Nat) (fv lv : Value) (es : List (Int × Int)) (p : Int) (e : Ending) (w' : World) : Prop :=
  e = .returned (.tuple #[.int .i64 (atE es 0).1, .bool true]) ∧ ∃ lv' es', HeapAt w' g fv lv' es' p ∧ IsHeap lt es' ∧ es.Perm (atE es 0 :: es') ∧ Keeps (fun b => b = g ∨ lv.ownBlock = some b) w w' ∧ lv'.ownBlock = lv.ownBlock

set_option maxRecDepth 100000 in
set_option maxHeartbeats 4000000 in
theorem pop_calls {fv : Value} {lt : (Int × Int) → (Int × Int) → Bool} (O : Ord lt) (B : BeforeIs fv lt) {w : World} {g : Nat} {lv : Value} {es : List (Int × Int)} {p : Int} (h : HeapAt w g fv lv es p) (hh : IsHeap lt es) (h0 : 0 < es.length) (hlen : es.length ≤ 1000000) :
    Calls Try.prog 33 #[.pointer (some ⟨g, 0, none⟩)] w (Popped lt w g fv lv es p) := by
  obtain ⟨c0, c1, c2⟩ := h.cell
  obtain ⟨r, cap, rfl, hlc, hcm, hrg, hrl⟩ := h.form' h0
  unfold maxLen at hcm
  have hgl := h.lt
  have f1 : w.frozen? ⟨g, 1, none⟩ = false := by simp [World.frozen?, h.blk]
  obtain ⟨m, hm⟩ : ∃ m, es.length = m + 1 := ⟨es.length - 1, by omega⟩
  obtain ⟨fi1, fi2⟩ := flat_at (es := es) (i := 0) h0
  obtain ⟨fj1, fj2⟩ := flat_at (es := es) (i := m) (by omega)
  have di1 := h.row.cellAt 0 (by omega)
  have di2 := h.row.cellAt 1 (by omega)
  have dj1 := h.row.cellAt (m * 2) (by omega)
  have dj2 := h.row.cellAt (m * 2 + 1) (by omega)
  rw [show (flat es)[0]? = _ from fi1] at di1
  rw [show (flat es)[1]? = _ from fi2] at di2
  rw [fj1] at dj1
  rw [fj2] at dj2
  have z1 := h.row.frozenAt 0
  have z2 := h.row.frozenAt 1
  have z3 := h.row.frozenAt (m * 2)
  have z4 := h.row.frozenAt (m * 2 + 1)
  rw [hm] at c1 hlc hlen
  have H0 := Lib.hid h
  have HM := Lib.hid hm
  obtain ⟨x1, hx1⟩ : ∃ x, (atE es 0).1 = x := ⟨_, rfl⟩
  obtain ⟨x2, hx2⟩ : ∃ x, (atE es 0).2 = x := ⟨_, rfl⟩
  obtain ⟨y1, hy1⟩ : ∃ x, (atE es m).1 = x := ⟨_, rfl⟩
  obtain ⟨y2, hy2⟩ : ∃ x, (atE es m).2 = x := ⟨_, rfl⟩
  rw [hx1] at di1
  rw [hx2] at di2
  rw [hy1] at dj1
  rw [hy2] at dj2
  have X1 := Lib.hid hx1
  have X2 := Lib.hid hx2
  have Y1 := Lib.hid hy1
  have Y2 := Lib.hid hy2
  have hw0 : r ≠ w.heap.size := by omega
  have hg0 : g ≠ w.heap.size := by omega
  clear h hm fi1 fi2 fj1 fj2 c0 c2 hx1 hx2 hy1 hy2 h0
  have tz : ((m : Int) + 1 == 0) = false := beq_eq_false_iff_ne.2 (by omega)
  have bm : (m : Int) < (m : Int) + 1 := by omega
  have bm0 : (0 : Int) ≤ (m : Int) := by omega
  have HP := Lib.hid (heap_popped H0.out HM.out)
  rw [Y1.out, Y2.out] at HP
  have HL : Hid ((popL es).length = m) := Lib.hid (by rw [popL_len, HM.out]; rfl)
  by_cases hm0 : m = 0
  · subst hm0
    obtain rfl : x1 = y1 := X1.out.symm.trans Y1.out
    obtain rfl : x2 = y2 := X2.out.symm.trans Y2.out
    simp only [Nat.zero_mul, Nat.zero_add] at HP
    go_enter Try.func33, Try.ntmps33
    go_wp2_with fail
    go_region
    go_wp2_with fail
    go_region
    go_wp2_with fail
    have HQ := Lib.hid (((HP.out.1.alloc (.cells #[.int .i64 x1, .int .i64 x2] 85)).drewN 1).drewN 1)
    have hbx : w.heap.size ≠ r := fun e => by omega
    have cb1 : ((((((w.setCell ⟨r, 0, none⟩ (.int .i64 x1)).setCell ⟨r, 1, none⟩ (.int .i64 x2)).setCell ⟨r, 0, none⟩ (.int .i64 0)).setCell ⟨r, 1, none⟩ (.int .i64 0)).setCell ⟨g, 1, none⟩ (.slice (some ⟨r, 0, none⟩) 0 cap)).alloc (.cells #[.int .i64 x1, .int .i64 x2] 85)).cell? ⟨w.heap.size, 0, none⟩ = some (.int .i64 x1) := by go_simp
    have KK := Lib.hid (((HP.out.2.alloc (.cells #[.int .i64 x1, .int .i64 x2] 85)).drewN 1).drewN 1)
    clear c1 di1 di2 dj1 dj2 z1 z2 z3 z4 f1 HP
    generalize World.alloc _ _ = W at *
    have c9 : W.drew.drew.cell? ⟨g, 1, none⟩ = some (.slice (some ⟨r, 0, none⟩) 0 cap) := HQ.out.cell.2.1
    refine (down_empty c9).mono ?_
    rintro e w2 ⟨rfl, rfl⟩
    clear c9
    go_wp2_with fail
    go_ret2
    refine ⟨by rw [X1.out]; rfl, _, popL es, HQ.out, ?_, perm_pop (by rw [HM.out]; omega), KK.out.mono (fun b _ e => by simpa [Value.ownBlock] using e), rfl⟩
    intro j h1 h2
    rw [HL.out] at h2
    omega
  · have n1 : ¬ m * 2 = 0 := by omega
    have n2 : ¬ m * 2 = 1 := by omega
    have n3 : ¬ m * 2 + 1 = 0 := by omega
    have n4 : ¬ m * 2 + 1 = 1 := by omega
    go_enter Try.func33, Try.ntmps33
    go_wp2_with fail
    go_region
    go_wp2_with fail
    go_region
    go_wp2_with fail
    have HQ := Lib.hid (((HP.out.1.alloc (.cells #[.int .i64 x1, .int .i64 x2] 85)).drewN 1).drewN 1)
    have hbx : w.heap.size ≠ r := fun e => by omega
    have cb1 : ((((((w.setCell ⟨r, 0, none⟩ (.int .i64 y1)).setCell ⟨r, 1, none⟩ (.int .i64 y2)).setCell ⟨r, m * 2, none⟩ (.int .i64 0)).setCell ⟨r, m * 2 + 1, none⟩ (.int .i64 0)).setCell ⟨g, 1, none⟩ (.slice (some ⟨r, 0, none⟩) m cap)).alloc (.cells #[.int .i64 x1, .int .i64 x2] 85)).cell? ⟨w.heap.size, 0, none⟩ = some (.int .i64 x1) := by go_simp
    have CB := Lib.hid cb1
    have KK := Lib.hid (((HP.out.2.alloc (.cells #[.int .i64 x1, .int .i64 x2] 85)).drewN 1).drewN 1)
    have hs : ((((((w.setCell ⟨r, 0, none⟩ (.int .i64 y1)).setCell ⟨r, 1, none⟩ (.int .i64 y2)).setCell ⟨r, m * 2, none⟩ (.int .i64 0)).setCell ⟨r, m * 2 + 1, none⟩ (.int .i64 0)).setCell ⟨g, 1, none⟩ (.slice (some ⟨r, 0, none⟩) m cap)).alloc (.cells #[.int .i64 x1, .int .i64 x2] 85)).heap.size = w.heap.size + 1 := by simp
    have HS := Lib.hid hs
    clear cb1 hs c1 di1 di2 dj1 dj2 z1 z2 z3 z4 f1 HP
    generalize World.alloc _ _ = W at *
    refine (down_calls O B HQ.out 0 (by rw [HL.out]; omega) (down_start hh) (by rw [HL.out]; omega)).mono ?_
    rintro e w2 ⟨rfl, es', hA, hB, hC, hD⟩
    have c9 : w2.cell? ⟨w.heap.size, 0, none⟩ = some (.int .i64 x1) := by
      rw [World.cell?_of_block (a := ⟨w.heap.size, 0, none⟩) (hD.block w.heap.size (by show w.heap.size < W.heap.size; rw [HS.out]; omega) (fun e => by simp [Value.ownBlock] at e; omega))]
      exact CB.out
    have F := Lib.hid (show ∃ lv' es', HeapAt w2 g fv lv' es' p ∧ IsHeap lt es' ∧ es.Perm (atE es 0 :: es') ∧ Keeps (fun b => b = g ∨ (Value.slice (some ⟨r, 0, none⟩) es.length cap).ownBlock = some b) w w2 ∧ lv'.ownBlock = (Value.slice (some ⟨r, 0, none⟩) es.length cap).ownBlock from
      ⟨_, es', hA, hB, (perm_pop (by rw [HM.out]; omega)).trans (hC.symm.cons _), (KK.out.then hD (fun b _ e => .inr (by simpa [Value.ownBlock] using e))).mono (fun b _ e => by simpa [Value.ownBlock] using e), rfl⟩)
    clear hA hB hC hD
    go_wp2_with fail
    go_ret2
    exact ⟨by rw [X1.out]; rfl, F.out⟩
end Go.Proofs.Ytepkmhcchmladaa

/- Contract of Pop, of cursors. Written by mkhc.py. -/
namespace Go.Proofs.Ytepkmhcchmladaa.Cu
open Go.RowKit
set_option linter.unusedVariables false
set_option linter.unusedSimpArgs false

def Nothing (w : World) (e : Ending) (w' : World) : Prop := e = .returned (.tuple #[]) ∧ w = w'
set_option maxRecDepth 100000 in
set_option maxHeartbeats 1000000 in
theorem down_empty {w : World} {g : Nat} {a : Option Addr} {cap : Nat} (c1 : w.cell? ⟨g, 1, none⟩ = some (.slice a 0 cap)) :
    Calls Try.prog 80 #[.pointer (some ⟨g, 0, none⟩), .int .i64 0] w (Nothing w) := by
  go_enter Try.func80, Try.ntmps80
  go_wp2_with fail
  go_loopw [1] (fun s wr => s = .int .i64 0 ∧ w = wr) (fun _ _ => 0)
  case atStart => exact ⟨rfl, rfl⟩
  case round =>
    obtain ⟨rfl, rfl⟩ := hrel
    obtain ⟨wm, hwm⟩ : ∃ x, x = w := ⟨w, rfl⟩
    rw [← hwm] at c1
    go_wp2_with fail
    go_loopw [4, 5] (fun s4 s5 wv => s4 = .int .i64 0 ∧ s5 = .int .i64 1 ∧ w = wv) (fun _ _ _ => 0)
    case atStart => exact ⟨rfl, rfl, rfl⟩
    case round =>
      obtain ⟨rfl, rfl, rfl⟩ := hrel
      subst hwm
      go_wp2_with fail
      go_end0
      exact ⟨rfl, rfl⟩
theorem pop_mem {es : List CE} (h : 0 < es.length) : ∀ e ∈ popL es, e ∈ es := fun e he => (perm_pop h).symm.subset (List.mem_cons_of_mem _ he)
theorem heap_popped {w : World} {g r cap m : Nat} {fv : Value} {es : List CE} {p : Int} (h : HeapAt w g fv (.slice (some ⟨r, 0, none⟩) es.length cap) es p) (hm : es.length = m + 1) :
    HeapAt (((((((((w.setCell ⟨r, 0, none⟩ (.pointer (atE es m).1.1.1)).setCell ⟨r, 1, none⟩ (.int .i64 (atE es m).1.1.2)).setCell ⟨r, 2, none⟩ (.slice (atE es m).1.2.1 (atE es m).1.2.2.1.length (atE es m).1.2.2.2)).setCell ⟨r, 3, none⟩ (.int .i64 (atE es m).2)).setCell ⟨r, m * 4, none⟩ (.pointer none)).setCell ⟨r, m * 4 + 1, none⟩ (.int .i64 0)).setCell ⟨r, m * 4 + 2, none⟩ (.slice none 0 0)).setCell ⟨r, m * 4 + 3, none⟩ (.int .i64 0)).setCell ⟨g, 1, none⟩ (.slice (some ⟨r, 0, none⟩) m cap)) g fv (.slice (some ⟨r, 0, none⟩) m cap) (popL es) p ∧
    Keeps (fun b => b = g ∨ r = b) w (((((((((w.setCell ⟨r, 0, none⟩ (.pointer (atE es m).1.1.1)).setCell ⟨r, 1, none⟩ (.int .i64 (atE es m).1.1.2)).setCell ⟨r, 2, none⟩ (.slice (atE es m).1.2.1 (atE es m).1.2.2.1.length (atE es m).1.2.2.2)).setCell ⟨r, 3, none⟩ (.int .i64 (atE es m).2)).setCell ⟨r, m * 4, none⟩ (.pointer none)).setCell ⟨r, m * 4 + 1, none⟩ (.int .i64 0)).setCell ⟨r, m * 4 + 2, none⟩ (.slice none 0 0)).setCell ⟨r, m * 4 + 3, none⟩ (.int .i64 0)).setCell ⟨g, 1, none⟩ (.slice (some ⟨r, 0, none⟩) m cap)) := by
  have hgr : g ≠ r := fun e => h.ne (by simp [Value.ownBlock, e])
  have K8 := (((((((((Keeps.refl (fun b => b = g ∨ r = b) w).setCell (p := ⟨r, 0, none⟩) (.inr rfl) (.pointer (atE es m).1.1.1)).setCell (p := ⟨r, 1, none⟩) (.inr rfl) (.int .i64 (atE es m).1.1.2)).setCell (p := ⟨r, 2, none⟩) (.inr rfl) (.slice (atE es m).1.2.1 (atE es m).1.2.2.1.length (atE es m).1.2.2.2)).setCell (p := ⟨r, 3, none⟩) (.inr rfl) (.int .i64 (atE es m).2)).setCell (p := ⟨r, m * 4, none⟩) (.inr rfl) (.pointer none)).setCell (p := ⟨r, m * 4 + 1, none⟩) (.inr rfl) (.int .i64 0)).setCell (p := ⟨r, m * 4 + 2, none⟩) (.inr rfl) (.slice none 0 0)).setCell (p := ⟨r, m * 4 + 3, none⟩) (.inr rfl) (.int .i64 0))
  have K9 := K8.setCell (p := ⟨g, 1, none⟩) (.inl rfl) (.slice (some ⟨r, 0, none⟩) m cap)
  refine ⟨?_, K9⟩
  have h0 := h.row
  have h1 := (h0.stored 0 (.pointer (atE es m).1.1.1)).1
  have h2 := (h1.stored 1 (.int .i64 (atE es m).1.1.2)).1
  have h3 := (h2.stored 2 (.slice (atE es m).1.2.1 (atE es m).1.2.2.1.length (atE es m).1.2.2.2)).1
  have h4 := (h3.stored 3 (.int .i64 (atE es m).2)).1
  have h5 := (h4.stored (m * 4) (.pointer none)).1
  have h6 := (h5.stored (m * 4 + 1) (.int .i64 0)).1
  have h7 := (h6.stored (m * 4 + 2) (.slice none 0 0)).1
  have h8 := (h7.stored (m * 4 + 3) (.int .i64 0)).1
  have e1 := flat_set (es := es) (i := 0) (atE es m) (by omega)
  rw [Nat.zero_mul, Nat.zero_add, Nat.zero_add, Nat.zero_add] at e1
  rw [e1] at h8
  have e2 := flat_set (es := es.set 0 (atE es m)) (i := m) (((none, 0), (none, [], 0)), 0) (by simp; omega)
  simp only [List.length_nil] at e2
  rw [e2] at h8
  have e3 : (es.set 0 (atE es m)).set m (((none, 0), (none, [], 0)), 0) = popL es ++ [(((none, 0), (none, [], 0)), 0)] := by
    unfold popL
    rw [hm, Nat.add_sub_cancel]
    apply List.ext_getElem
    · simp; omega
    · intro i hi1 hi2
      simp at hi1
      by_cases e : i = m
      · subst e; simp [hm]
      · rw [List.getElem_append_left (by simp; omega)]
        rw [List.getElem_set_ne (fun h => e h.symm)]
        simp
  rw [e3, flat_append, hm] at h8
  have h7 := ownsRow_pop (xs := flat (popL es)) (last := flat [(((none, 0), (none, [], 0)), 0)]) (by rw [flat_len, popL_len, hm]; rfl) h8
  have hpl : (popL es).length = m := by rw [popL_len, hm]; rfl
  have h9 := owns_keeps (N := fun b => b = g) h7 ((Keeps.refl (fun b => b = g) _).setCell (p := ⟨g, 1, none⟩) rfl (.slice (some ⟨r, 0, none⟩) m cap)) (fun b hb e => hgr (by simp [Value.ownBlock] at hb; omega))
  refine ⟨?_, by rw [hpl]; exact h9, fun e => hgr (by simp [Value.ownBlock] at e; exact e.symm), ?_⟩
  · refine blk_put1 (b := .slice (some ⟨r, 0, none⟩) es.length cap) ?_
    rw [Below.heap_setCell _ _ _ g hgr, Below.heap_setCell _ _ _ g hgr, Below.heap_setCell _ _ _ g hgr, Below.heap_setCell _ _ _ g hgr, Below.heap_setCell _ _ _ g hgr, Below.heap_setCell _ _ _ g hgr, Below.heap_setCell _ _ _ g hgr, Below.heap_setCell _ _ _ g hgr]
    exact h.blk
  · have := (h.rd.own (K9.mono (fun b _ hb => by rcases hb with e | e; exact .inl e; exact .inr (by simp [Value.ownBlock, e])))).sub (pop_mem (by omega))
    simpa [Value.ownBlock] using this
theorem HeapAt.alloc {w : World} {g : Nat} {fv lv : Value} {es : List CE} {p : Int} (h : HeapAt w g fv lv es p) (o : Obj) : HeapAt (w.alloc o) g fv lv es p := h.below ((Below.refl _ _).alloc (Nat.le_refl _) _)
theorem keeps_new {N : Nat → Prop} {a b : World} (h : Keeps N a b) {q : Addr} (hq : a.heap.size ≤ q.block) (u : Value) : Keeps N a (b.setCell q u) :=
  ⟨h.os, h.tape, h.output, by simp; exact h.size, fun k hk hn => (Below.heap_setCell b q u k (by omega)).trans (h.block k hk hn)⟩

/-- What a pop leaves: the least entry is handed out, the others stay. -/
def Popped (lt : CE → CE → Bool) (w : World) (g : Nat) (fv lv : Value) (es : List CE) (p : Int) (e : Ending) (w' : World) : Prop :=
  e = .returned (.tuple #[cuV (atE es 0).1, .bool true]) ∧ ∃ lv' es', HeapAt w' g fv lv' es' p ∧ IsHeap lt es' ∧ es.Perm (atE es 0 :: es') ∧ Keeps (fun b => b = g ∨ lv.ownBlock = some b) w w' ∧ lv'.ownBlock = lv.ownBlock

set_option maxRecDepth 100000 in
theorem pop_none {w : World} {g : Nat} {fv lv : Value} {p : Int} (h : HeapAt w g fv lv [] p) :
    Calls Try.prog 65 #[.pointer (some ⟨g, 0, none⟩)] w fun e w' => e = .returned (.tuple #[.agg #[.pointer none, .int .i64 0, .slice none 0 0], .bool false]) ∧ Below w.heap.size w w' := by
  obtain ⟨c0, c1, c2⟩ := h.cell
  obtain ⟨a, cap, rfl⟩ := h.form
  have hgl := h.lt
  have hg1 : ¬ g = w.heap.size := by omega
  clear h
  go_enter Try.func65, Try.ntmps65
  go_wp2_with fail
  refine bodyPost_ret (v := .tuple #[.agg #[.pointer none, .int .i64 0, .slice none 0 0], .bool false]) (by simp [results, Try.results65, go_sem]) rfl ⟨rfl, ?_⟩
  exact ((Below.refl w.heap.size w).alloc (Nat.le_refl _) _).alloc (by simp) _

set_option maxRecDepth 100000 in
set_option maxHeartbeats 8000000 in
theorem pop_calls {fv : Value} {lt : CE → CE → Bool} (O : Ord lt) (B : BeforeIs fv lt) {w : World} {g : Nat} {lv : Value} {es : List CE} {p : Int} (h : HeapAt w g fv lv es p) (hh : IsHeap lt es) (h0 : 0 < es.length) (hlen : es.length ≤ 1000000) :
    Calls Try.prog 65 #[.pointer (some ⟨g, 0, none⟩)] w (Popped lt w g fv lv es p) := by
  obtain ⟨r, cap, rfl, hlc, hcm, hrg, hrl⟩ := h.form' h0
  unfold maxLen at hcm
  have B0 := Lib.hid ((Below.refl w.heap.size w).alloc (Nat.le_refl _) (.cells #[.pointer none, .int .i64 0, .slice none 0 0] 90))
  have hbx0 : (w.alloc (.cells #[.pointer none, .int .i64 0, .slice none 0 0] 90)).heap[w.heap.size]? = some (.cells #[.pointer none, .int .i64 0, .slice none 0 0] 90 (0, 0)) := heap_alloc_new w _
  have H1 := h.below B0.out
  have hgl0 := h.lt
  have HGL := Lib.hid hgl0
  have HRL := Lib.hid hrl
  have EB : Hid (∀ e ∈ es, ∀ q, e.1.2.1 = some q → q.block < w.heap.size) := Lib.hid (fun e he q hq => (h.rd e he).2.2.2 q hq |>.1)
  obtain ⟨w0, hw0⟩ : ∃ x, w.alloc (.cells #[.pointer none, .int .i64 0, .slice none 0 0] 90) = x := ⟨_, rfl⟩
  rw [hw0] at B0 hbx0 H1
  obtain ⟨bx, hbx⟩ : ∃ x, w.heap.size = x := ⟨_, rfl⟩
  have HBX := Lib.hid hbx
  rw [hbx] at hbx0 hrl hgl0 EB
  have HX0 := Lib.hid hbx0
  have hbl : bx < w0.heap.size := (Array.getElem?_eq_some_iff.1 hbx0).1
  have hbg : ¬ bx = g := by omega
  have hbr : ¬ bx = r := by omega
  clear h
  obtain ⟨c0, c1, c2⟩ := H1.cell
  have hgl := H1.lt
  have f1 : w0.frozen? ⟨g, 1, none⟩ = false := by simp [World.frozen?, H1.blk]
  obtain ⟨m, hm⟩ : ∃ m, es.length = m + 1 := ⟨es.length - 1, by omega⟩
  obtain ⟨fi1, fi2, fi3, fi4⟩ := flat_at (es := es) (i := 0) h0
  obtain ⟨fj1, fj2, fj3, fj4⟩ := flat_at (es := es) (i := m) (by omega)
  have di1 := H1.row.cellAt 0 (by omega)
  have di2 := H1.row.cellAt 1 (by omega)
  have di3 := H1.row.cellAt 2 (by omega)
  have di4 := H1.row.cellAt 3 (by omega)
  have dj1 := H1.row.cellAt (m * 4) (by omega)
  have dj2 := H1.row.cellAt (m * 4 + 1) (by omega)
  have dj3 := H1.row.cellAt (m * 4 + 2) (by omega)
  have dj4 := H1.row.cellAt (m * 4 + 3) (by omega)
  rw [show (flat es)[0]? = _ from fi1] at di1
  rw [show (flat es)[1]? = _ from fi2] at di2
  rw [show (flat es)[2]? = _ from fi3] at di3
  rw [show (flat es)[3]? = _ from fi4] at di4
  rw [fj1] at dj1
  rw [fj2] at dj2
  rw [fj3] at dj3
  rw [fj4] at dj4
  have z1 := H1.row.frozenAt 0
  have z2 := H1.row.frozenAt 1
  have z3 := H1.row.frozenAt 2
  have z4 := H1.row.frozenAt 3
  have z5 := H1.row.frozenAt (m * 4)
  have z6 := H1.row.frozenAt (m * 4 + 1)
  have z7 := H1.row.frozenAt (m * 4 + 2)
  have z8 := H1.row.frozenAt (m * 4 + 3)
  rw [hm] at c1 hlc hlen
  have H0 := Lib.hid H1
  have HM := Lib.hid hm
  obtain ⟨x, hx⟩ : ∃ x, atE es 0 = x := ⟨_, rfl⟩
  obtain ⟨y, hy⟩ : ∃ y, atE es m = y := ⟨_, rfl⟩
  rw [hx] at di1 di2 di3 di4
  rw [hy] at dj1 dj2 dj3 dj4
  have HP := Lib.hid (heap_popped H0.out HM.out)
  rw [hy] at HP
  obtain ⟨⟨⟨x1, x2⟩, ⟨x3, xz, x4⟩⟩, x5⟩ := x
  obtain ⟨⟨⟨y1, y2⟩, ⟨y3, yz, y4⟩⟩, y5⟩ := y
  dsimp only at di1 di2 di3 di4 dj1 dj2 dj3 dj4 HP
  have EX := Lib.hid hx
  have EY := Lib.hid hy
  have hwr : ¬ r = w0.heap.size := by have := B0.out.size; omega
  have hwg : ¬ g = w0.heap.size := by omega
  have hrl0 : r < w0.heap.size := by have := B0.out.size; omega
  have HGL2 := Lib.hid hgl
  clear H1 hm fi1 fi2 fi3 fi4 fj1 fj2 fj3 fj4 c0 c2 hx hy h0 hbx0
  have tz : ((m : Int) + 1 == 0) = false := beq_eq_false_iff_ne.2 (by omega)
  have bm : (m : Int) < (m : Int) + 1 := by omega
  have bm0 : (0 : Int) ≤ (m : Int) := by omega
  have HL : Hid ((popL es).length = m) := Lib.hid (by rw [popL_len, HM.out]; rfl)
  by_cases hm0 : m = 0
  · subst hm0
    obtain ⟨rfl, rfl, rfl, rfl, rfl, rfl⟩ : x1 = y1 ∧ x2 = y2 ∧ x3 = y3 ∧ xz = yz ∧ x4 = y4 ∧ x5 = y5 := by
      have := EX.out.symm.trans EY.out
      simp only [Prod.mk.injEq] at this
      obtain ⟨⟨⟨a, b⟩, c, d, e⟩, f⟩ := this
      exact ⟨a, b, c, d, e, f⟩
    simp only [Nat.zero_mul, Nat.zero_add] at HP
    go_enter Try.func65, Try.ntmps65
    go_wp2_with fail
    go_region
    go_wp2_with fail
    go_region
    go_wp2_with fail
    have HQ := Lib.hid (((HP.out.1.alloc (.cells #[.pointer x1, .int .i64 x2, .slice x3 xz.length x4, .int .i64 x5] 111)).drewN 1).drewN 1)
    have hbx2 : w0.heap.size ≠ r := fun e => hwr e.symm
    have CB0 : Hid (((((((((((w0.setCell ⟨r, 0, none⟩ (.pointer x1)).setCell ⟨r, 1, none⟩ (.int .i64 x2)).setCell ⟨r, 2, none⟩ (.slice x3 xz.length x4)).setCell ⟨r, 3, none⟩ (.int .i64 x5)).setCell ⟨r, 0, none⟩ (.pointer none)).setCell ⟨r, 1, none⟩ (.int .i64 0)).setCell ⟨r, 2, none⟩ (.slice none 0 0)).setCell ⟨r, 3, none⟩ (.int .i64 0)).setCell ⟨g, 1, none⟩ (.slice (some ⟨r, 0, none⟩) 0 cap)).alloc (.cells #[.pointer x1, .int .i64 x2, .slice x3 xz.length x4, .int .i64 x5] 111)).cell? ⟨w0.heap.size, 0, none⟩ = some (.pointer x1)) := Lib.hid (by go_simp)
    have CB1 : Hid (((((((((((w0.setCell ⟨r, 0, none⟩ (.pointer x1)).setCell ⟨r, 1, none⟩ (.int .i64 x2)).setCell ⟨r, 2, none⟩ (.slice x3 xz.length x4)).setCell ⟨r, 3, none⟩ (.int .i64 x5)).setCell ⟨r, 0, none⟩ (.pointer none)).setCell ⟨r, 1, none⟩ (.int .i64 0)).setCell ⟨r, 2, none⟩ (.slice none 0 0)).setCell ⟨r, 3, none⟩ (.int .i64 0)).setCell ⟨g, 1, none⟩ (.slice (some ⟨r, 0, none⟩) 0 cap)).alloc (.cells #[.pointer x1, .int .i64 x2, .slice x3 xz.length x4, .int .i64 x5] 111)).cell? ⟨w0.heap.size, 1, none⟩ = some (.int .i64 x2)) := Lib.hid (by go_simp)
    have CB2 : Hid (((((((((((w0.setCell ⟨r, 0, none⟩ (.pointer x1)).setCell ⟨r, 1, none⟩ (.int .i64 x2)).setCell ⟨r, 2, none⟩ (.slice x3 xz.length x4)).setCell ⟨r, 3, none⟩ (.int .i64 x5)).setCell ⟨r, 0, none⟩ (.pointer none)).setCell ⟨r, 1, none⟩ (.int .i64 0)).setCell ⟨r, 2, none⟩ (.slice none 0 0)).setCell ⟨r, 3, none⟩ (.int .i64 0)).setCell ⟨g, 1, none⟩ (.slice (some ⟨r, 0, none⟩) 0 cap)).alloc (.cells #[.pointer x1, .int .i64 x2, .slice x3 xz.length x4, .int .i64 x5] 111)).cell? ⟨w0.heap.size, 2, none⟩ = some (.slice x3 xz.length x4)) := Lib.hid (by go_simp)
    have KK := Lib.hid (((HP.out.2.alloc (.cells #[.pointer x1, .int .i64 x2, .slice x3 xz.length x4, .int .i64 x5] 111)).drewN 1).drewN 1)
    have HBW : Hid (((((((((((w0.setCell ⟨r, 0, none⟩ (.pointer x1)).setCell ⟨r, 1, none⟩ (.int .i64 x2)).setCell ⟨r, 2, none⟩ (.slice x3 xz.length x4)).setCell ⟨r, 3, none⟩ (.int .i64 x5)).setCell ⟨r, 0, none⟩ (.pointer none)).setCell ⟨r, 1, none⟩ (.int .i64 0)).setCell ⟨r, 2, none⟩ (.slice none 0 0)).setCell ⟨r, 3, none⟩ (.int .i64 0)).setCell ⟨g, 1, none⟩ (.slice (some ⟨r, 0, none⟩) 0 cap)).alloc (.cells #[.pointer x1, .int .i64 x2, .slice x3 xz.length x4, .int .i64 x5] 111)).heap[bx]? = some (.cells #[.pointer none, .int .i64 0, .slice none 0 0] 90 (0, 0))) := Lib.hid (by
      rw [Below.heap_alloc _ _ bx (by simp; omega)]
      rw [Below.heap_setCell _ _ _ bx hbg, Below.heap_setCell _ _ _ bx hbr, Below.heap_setCell _ _ _ bx hbr, Below.heap_setCell _ _ _ bx hbr, Below.heap_setCell _ _ _ bx hbr, Below.heap_setCell _ _ _ bx hbr, Below.heap_setCell _ _ _ bx hbr, Below.heap_setCell _ _ _ bx hbr, Below.heap_setCell _ _ _ bx hbr]
      exact HX0.out)
    have HS : Hid (((((((((((w0.setCell ⟨r, 0, none⟩ (.pointer x1)).setCell ⟨r, 1, none⟩ (.int .i64 x2)).setCell ⟨r, 2, none⟩ (.slice x3 xz.length x4)).setCell ⟨r, 3, none⟩ (.int .i64 x5)).setCell ⟨r, 0, none⟩ (.pointer none)).setCell ⟨r, 1, none⟩ (.int .i64 0)).setCell ⟨r, 2, none⟩ (.slice none 0 0)).setCell ⟨r, 3, none⟩ (.int .i64 0)).setCell ⟨g, 1, none⟩ (.slice (some ⟨r, 0, none⟩) 0 cap)).alloc (.cells #[.pointer x1, .int .i64 x2, .slice x3 xz.length x4, .int .i64 x5] 111)).heap.size = w0.heap.size + 1) := Lib.hid (by simp)
    clear c1 di1 di2 di3 di4 dj1 dj2 dj3 dj4 z1 z2 z3 z4 z5 z6 z7 z8 f1 HP hw0
    generalize World.alloc _ _ = W at *
    have c9 : W.drew.drew.cell? ⟨g, 1, none⟩ = some (.slice (some ⟨r, 0, none⟩) 0 cap) := HQ.out.cell.2.1
    refine (down_empty c9).mono ?_
    rintro e w2 ⟨rfl, rfl⟩
    clear c9
    have q0 : W.drew.drew.cell? ⟨w0.heap.size, 0, none⟩ = some (.pointer x1) := CB0.out
    have q1 : W.drew.drew.cell? ⟨w0.heap.size, 1, none⟩ = some (.int .i64 x2) := CB1.out
    have q2 : W.drew.drew.cell? ⟨w0.heap.size, 2, none⟩ = some (.slice x3 xz.length x4) := CB2.out
    have hB2 : W.drew.drew.heap[bx]? = some (.cells #[.pointer none, .int .i64 0, .slice none 0 0] 90 (0, 0)) := HBW.out
    have FF := Lib.hid (show ∃ lv' es', HeapAt W.drew.drew g fv lv' es' p ∧ IsHeap lt es' ∧ es.Perm (atE es 0 :: es') ∧ Keeps (fun b => b = g ∨ (Value.slice (some ⟨r, 0, none⟩) es.length cap).ownBlock = some b) w0 W.drew.drew ∧ lv'.ownBlock = (Value.slice (some ⟨r, 0, none⟩) es.length cap).ownBlock from
      ⟨_, popL es, HQ.out, (fun j h1 h2 => by rw [HL.out] at h2; omega), perm_pop (by rw [HM.out]; omega), KK.out.mono (fun b _ e => by simpa [Value.ownBlock] using e), rfl⟩)
    generalize W.drew.drew = w2 at *
    have FX := FF.out
    clear FF
    have r0 : w2.cell? ⟨bx, 0, none⟩ = some (.pointer none) := by rw [cell_of_row w2 bx 0 _ 90 (0, 0) hB2]; rfl
    have r1 : w2.cell? ⟨bx, 1, none⟩ = some (.int .i64 0) := by rw [cell_of_row w2 bx 1 _ 90 (0, 0) hB2]; rfl
    have r2 : w2.cell? ⟨bx, 2, none⟩ = some (.slice none 0 0) := by rw [cell_of_row w2 bx 2 _ 90 (0, 0) hB2]; rfl
    have g0 : w2.frozen? ⟨bx, 0, none⟩ = false := by simp [World.frozen?, hB2]
    have g1 : w2.frozen? ⟨bx, 1, none⟩ = false := by simp [World.frozen?, hB2]
    have g2 : w2.frozen? ⟨bx, 2, none⟩ = false := by simp [World.frozen?, hB2]
    have FY := Lib.hid FX
    clear hB2 FX
    go_wp2_with fail
    try simp only [Exit.inBlock, Exit.then]
    refine bodyPost_ret (v := .tuple #[.agg #[.pointer x1, .int .i64 x2, .slice x3 xz.length x4], .bool true]) ?_ rfl ?_
    · simp [results, Try.results65, go_sem, r0, r1, r2]
    refine ⟨by rw [EX.out], ?_⟩
    obtain ⟨lv', es', hA, hB, hC, hD, hE⟩ := FY.out
    have kb : Keeps (fun b => b = bx) w2 (((w2.setCell ⟨bx, 0, none⟩ (.pointer x1)).setCell ⟨bx, 1, none⟩ (.int .i64 x2)).setCell ⟨bx, 2, none⟩ (.slice x3 xz.length x4)) := ((((Keeps.refl (fun b => b = bx) w2).setCell (p := ⟨bx, 0, none⟩) rfl (.pointer x1)).setCell (p := ⟨bx, 1, none⟩) rfl (.int .i64 x2)).setCell (p := ⟨bx, 2, none⟩) rfl (.slice x3 xz.length x4))
    refine ⟨lv', es', hA.keeps kb (fun e => hbg e.symm) (fun b hb e => by rw [hE] at hb; simp [Value.ownBlock] at hb; omega) (fun e he q hq e2 => by have := EB.out e (hC.symm.subset (List.mem_cons_of_mem _ he)) q hq; omega), hB, hC, ?_, hE⟩
    exact (keeps_new (q := ⟨bx, 2, none⟩) (keeps_new (q := ⟨bx, 1, none⟩) (keeps_new (q := ⟨bx, 0, none⟩) ((Keeps.of_below B0.out).trans hD) (by rw [HBX.out]; exact Nat.le_refl _) (.pointer x1)) (by rw [HBX.out]; exact Nat.le_refl _) (.int .i64 x2)) (by rw [HBX.out]; exact Nat.le_refl _) (.slice x3 xz.length x4))
  · have n1 : ¬ m * 4 = 0 := by omega
    have n2 : ¬ m * 4 = 1 := by omega
    have n3 : ¬ m * 4 = 2 := by omega
    have n4 : ¬ m * 4 = 3 := by omega
    have n5 : ¬ m * 4 + 1 = 0 := by omega
    have n6 : ¬ m * 4 + 1 = 1 := by omega
    have n7 : ¬ m * 4 + 1 = 2 := by omega
    have n8 : ¬ m * 4 + 1 = 3 := by omega
    have n9 : ¬ m * 4 + 2 = 0 := by omega
    have n10 : ¬ m * 4 + 2 = 1 := by omega
    have n11 : ¬ m * 4 + 2 = 2 := by omega
    have n12 : ¬ m * 4 + 2 = 3 := by omega
    have n13 : ¬ m * 4 + 3 = 0 := by omega
    have n14 : ¬ m * 4 + 3 = 1 := by omega
    have n15 : ¬ m * 4 + 3 = 2 := by omega
    have n16 : ¬ m * 4 + 3 = 3 := by omega
    go_enter Try.func65, Try.ntmps65
    go_wp2_with fail
    go_region
    go_wp2_with fail
    go_region
    go_wp2_with fail
    have HQ := Lib.hid (((HP.out.1.alloc (.cells #[.pointer x1, .int .i64 x2, .slice x3 xz.length x4, .int .i64 x5] 111)).drewN 1).drewN 1)
    have hbx2 : w0.heap.size ≠ r := fun e => hwr e.symm
    have CB0 : Hid (((((((((((w0.setCell ⟨r, 0, none⟩ (.pointer y1)).setCell ⟨r, 1, none⟩ (.int .i64 y2)).setCell ⟨r, 2, none⟩ (.slice y3 yz.length y4)).setCell ⟨r, 3, none⟩ (.int .i64 y5)).setCell ⟨r, m * 4, none⟩ (.pointer none)).setCell ⟨r, m * 4 + 1, none⟩ (.int .i64 0)).setCell ⟨r, m * 4 + 2, none⟩ (.slice none 0 0)).setCell ⟨r, m * 4 + 3, none⟩ (.int .i64 0)).setCell ⟨g, 1, none⟩ (.slice (some ⟨r, 0, none⟩) m cap)).alloc (.cells #[.pointer x1, .int .i64 x2, .slice x3 xz.length x4, .int .i64 x5] 111)).cell? ⟨w0.heap.size, 0, none⟩ = some (.pointer x1)) := Lib.hid (by go_simp)
    have CB1 : Hid (((((((((((w0.setCell ⟨r, 0, none⟩ (.pointer y1)).setCell ⟨r, 1, none⟩ (.int .i64 y2)).setCell ⟨r, 2, none⟩ (.slice y3 yz.length y4)).setCell ⟨r, 3, none⟩ (.int .i64 y5)).setCell ⟨r, m * 4, none⟩ (.pointer none)).setCell ⟨r, m * 4 + 1, none⟩ (.int .i64 0)).setCell ⟨r, m * 4 + 2, none⟩ (.slice none 0 0)).setCell ⟨r, m * 4 + 3, none⟩ (.int .i64 0)).setCell ⟨g, 1, none⟩ (.slice (some ⟨r, 0, none⟩) m cap)).alloc (.cells #[.pointer x1, .int .i64 x2, .slice x3 xz.length x4, .int .i64 x5] 111)).cell? ⟨w0.heap.size, 1, none⟩ = some (.int .i64 x2)) := Lib.hid (by go_simp)
    have CB2 : Hid (((((((((((w0.setCell ⟨r, 0, none⟩ (.pointer y1)).setCell ⟨r, 1, none⟩ (.int .i64 y2)).setCell ⟨r, 2, none⟩ (.slice y3 yz.length y4)).setCell ⟨r, 3, none⟩ (.int .i64 y5)).setCell ⟨r, m * 4, none⟩ (.pointer none)).setCell ⟨r, m * 4 + 1, none⟩ (.int .i64 0)).setCell ⟨r, m * 4 + 2, none⟩ (.slice none 0 0)).setCell ⟨r, m * 4 + 3, none⟩ (.int .i64 0)).setCell ⟨g, 1, none⟩ (.slice (some ⟨r, 0, none⟩) m cap)).alloc (.cells #[.pointer x1, .int .i64 x2, .slice x3 xz.length x4, .int .i64 x5] 111)).cell? ⟨w0.heap.size, 2, none⟩ = some (.slice x3 xz.length x4)) := Lib.hid (by go_simp)
    have KK := Lib.hid (((HP.out.2.alloc (.cells #[.pointer x1, .int .i64 x2, .slice x3 xz.length x4, .int .i64 x5] 111)).drewN 1).drewN 1)
    have HBW : Hid (((((((((((w0.setCell ⟨r, 0, none⟩ (.pointer y1)).setCell ⟨r, 1, none⟩ (.int .i64 y2)).setCell ⟨r, 2, none⟩ (.slice y3 yz.length y4)).setCell ⟨r, 3, none⟩ (.int .i64 y5)).setCell ⟨r, m * 4, none⟩ (.pointer none)).setCell ⟨r, m * 4 + 1, none⟩ (.int .i64 0)).setCell ⟨r, m * 4 + 2, none⟩ (.slice none 0 0)).setCell ⟨r, m * 4 + 3, none⟩ (.int .i64 0)).setCell ⟨g, 1, none⟩ (.slice (some ⟨r, 0, none⟩) m cap)).alloc (.cells #[.pointer x1, .int .i64 x2, .slice x3 xz.length x4, .int .i64 x5] 111)).heap[bx]? = some (.cells #[.pointer none, .int .i64 0, .slice none 0 0] 90 (0, 0))) := Lib.hid (by
      rw [Below.heap_alloc _ _ bx (by simp; omega)]
      rw [Below.heap_setCell _ _ _ bx hbg, Below.heap_setCell _ _ _ bx hbr, Below.heap_setCell _ _ _ bx hbr, Below.heap_setCell _ _ _ bx hbr, Below.heap_setCell _ _ _ bx hbr, Below.heap_setCell _ _ _ bx hbr, Below.heap_setCell _ _ _ bx hbr, Below.heap_setCell _ _ _ bx hbr, Below.heap_setCell _ _ _ bx hbr]
      exact HX0.out)
    have HS : Hid (((((((((((w0.setCell ⟨r, 0, none⟩ (.pointer y1)).setCell ⟨r, 1, none⟩ (.int .i64 y2)).setCell ⟨r, 2, none⟩ (.slice y3 yz.length y4)).setCell ⟨r, 3, none⟩ (.int .i64 y5)).setCell ⟨r, m * 4, none⟩ (.pointer none)).setCell ⟨r, m * 4 + 1, none⟩ (.int .i64 0)).setCell ⟨r, m * 4 + 2, none⟩ (.slice none 0 0)).setCell ⟨r, m * 4 + 3, none⟩ (.int .i64 0)).setCell ⟨g, 1, none⟩ (.slice (some ⟨r, 0, none⟩) m cap)).alloc (.cells #[.pointer x1, .int .i64 x2, .slice x3 xz.length x4, .int .i64 x5] 111)).heap.size = w0.heap.size + 1) := Lib.hid (by simp)
    clear c1 di1 di2 di3 di4 dj1 dj2 dj3 dj4 z1 z2 z3 z4 z5 z6 z7 z8 f1 HP hw0
    generalize World.alloc _ _ = W at *
    refine (down_calls O B HQ.out 0 (by rw [HL.out]; omega) (down_start hh) (by rw [HL.out]; omega)).mono ?_
    rintro e w2 ⟨rfl, es', hA, hB, hC, hD⟩
    have q0 : w2.cell? ⟨w0.heap.size, 0, none⟩ = some (.pointer x1) := by
      rw [World.cell?_of_block (a := ⟨w0.heap.size, 0, none⟩) (hD.block w0.heap.size (by show w0.heap.size < W.heap.size; rw [HS.out]; omega) (fun e => by simp [Value.ownBlock] at e; omega))]
      exact CB0.out
    have q1 : w2.cell? ⟨w0.heap.size, 1, none⟩ = some (.int .i64 x2) := by
      rw [World.cell?_of_block (a := ⟨w0.heap.size, 1, none⟩) (hD.block w0.heap.size (by show w0.heap.size < W.heap.size; rw [HS.out]; omega) (fun e => by simp [Value.ownBlock] at e; omega))]
      exact CB1.out
    have q2 : w2.cell? ⟨w0.heap.size, 2, none⟩ = some (.slice x3 xz.length x4) := by
      rw [World.cell?_of_block (a := ⟨w0.heap.size, 2, none⟩) (hD.block w0.heap.size (by show w0.heap.size < W.heap.size; rw [HS.out]; omega) (fun e => by simp [Value.ownBlock] at e; omega))]
      exact CB2.out
    have hB2 : w2.heap[bx]? = some (.cells #[.pointer none, .int .i64 0, .slice none 0 0] 90 (0, 0)) := (hD.block bx (by show bx < W.heap.size; rw [HS.out]; omega) (fun e => by simp [Value.ownBlock] at e; omega)).trans HBW.out
    have FF := Lib.hid (show ∃ lv' es', HeapAt w2 g fv lv' es' p ∧ IsHeap lt es' ∧ es.Perm (atE es 0 :: es') ∧ Keeps (fun b => b = g ∨ (Value.slice (some ⟨r, 0, none⟩) es.length cap).ownBlock = some b) w0 w2 ∧ lv'.ownBlock = (Value.slice (some ⟨r, 0, none⟩) es.length cap).ownBlock from
      ⟨_, es', hA, hB, (perm_pop (by rw [HM.out]; omega)).trans (hC.symm.cons _), (KK.out.then hD (fun b _ e => .inr (by simpa [Value.ownBlock] using e))).mono (fun b _ e => by simpa [Value.ownBlock] using e), rfl⟩)
    clear hA hB hC hD
    have FX := FF.out
    clear FF
    have r0 : w2.cell? ⟨bx, 0, none⟩ = some (.pointer none) := by rw [cell_of_row w2 bx 0 _ 90 (0, 0) hB2]; rfl
    have r1 : w2.cell? ⟨bx, 1, none⟩ = some (.int .i64 0) := by rw [cell_of_row w2 bx 1 _ 90 (0, 0) hB2]; rfl
    have r2 : w2.cell? ⟨bx, 2, none⟩ = some (.slice none 0 0) := by rw [cell_of_row w2 bx 2 _ 90 (0, 0) hB2]; rfl
    have g0 : w2.frozen? ⟨bx, 0, none⟩ = false := by simp [World.frozen?, hB2]
    have g1 : w2.frozen? ⟨bx, 1, none⟩ = false := by simp [World.frozen?, hB2]
    have g2 : w2.frozen? ⟨bx, 2, none⟩ = false := by simp [World.frozen?, hB2]
    have FY := Lib.hid FX
    clear hB2 FX
    go_wp2_with fail
    try simp only [Exit.inBlock, Exit.then]
    refine bodyPost_ret (v := .tuple #[.agg #[.pointer x1, .int .i64 x2, .slice x3 xz.length x4], .bool true]) ?_ rfl ?_
    · simp [results, Try.results65, go_sem, r0, r1, r2]
    refine ⟨by rw [EX.out], ?_⟩
    obtain ⟨lv', es', hA, hB, hC, hD, hE⟩ := FY.out
    have kb : Keeps (fun b => b = bx) w2 (((w2.setCell ⟨bx, 0, none⟩ (.pointer x1)).setCell ⟨bx, 1, none⟩ (.int .i64 x2)).setCell ⟨bx, 2, none⟩ (.slice x3 xz.length x4)) := ((((Keeps.refl (fun b => b = bx) w2).setCell (p := ⟨bx, 0, none⟩) rfl (.pointer x1)).setCell (p := ⟨bx, 1, none⟩) rfl (.int .i64 x2)).setCell (p := ⟨bx, 2, none⟩) rfl (.slice x3 xz.length x4))
    refine ⟨lv', es', hA.keeps kb (fun e => hbg e.symm) (fun b hb e => by rw [hE] at hb; simp [Value.ownBlock] at hb; omega) (fun e he q hq e2 => by have := EB.out e (hC.symm.subset (List.mem_cons_of_mem _ he)) q hq; omega), hB, hC, ?_, hE⟩
    exact (keeps_new (q := ⟨bx, 2, none⟩) (keeps_new (q := ⟨bx, 1, none⟩) (keeps_new (q := ⟨bx, 0, none⟩) ((Keeps.of_below B0.out).trans hD) (by rw [HBX.out]; exact Nat.le_refl _) (.pointer x1)) (by rw [HBX.out]; exact Nat.le_refl _) (.int .i64 x2)) (by rw [HBX.out]; exact Nat.le_refl _) (.slice x3 xz.length x4))
end Go.Proofs.Ytepkmhcchmladaa.Cu

/- A heap of cursors told by the bag of its entries. Written by mkhc.py. -/
namespace Go.Proofs.Ytepkmhcchmladaa.Cu
open Go.RowKit
set_option linter.unusedVariables false
set_option linter.unusedSimpArgs false

abbrev fC : Value := .func (.func 63) #[] #[]
theorem cmpS_neg (a b : List Int) : cmpS a b < 0 ↔ cmpR a b < 0 := by unfold cmpS; split <;> (try split) <;> constructor <;> intro h <;> omega
theorem ltV_iff (a b : RV) : ltV a b = true ↔ cmpR a.2.1 b.2.1 < 0 := by unfold ltV; rw [decide_eq_true_iff, cmpS_neg]
theorem ltC_iff (a b : CE) : ltC a b = true ↔ cmpR a.1.2.2.1 b.1.2.2.1 < 0 ∨ (a.1.2.2.1 = b.1.2.2.1 ∧ a.2 < b.2) := by
  unfold ltC
  rw [Bool.or_eq_true, Bool.and_eq_true, ltV_iff, decide_eq_true_iff, Bool.not_eq_true', ← Bool.not_eq_true, ltV_iff]
  constructor
  · rintro (h | ⟨h1, h2⟩)
    · exact .inl h
    · rcases cmpR_tri a.1.2.2.1 b.1.2.2.1 with h | h | h
      · exact .inl h
      · exact .inr ⟨h, h2⟩
      · exact absurd ((cmpR_neg _ _).2 h) h1
  · rintro (h | ⟨h1, h2⟩)
    · exact .inl h
    · exact .inr ⟨by rw [h1, cmpR_self]; omega, h2⟩
theorem ltC_not {a b : CE} (h : ltC a b = false) : cmpR b.1.2.2.1 a.1.2.2.1 ≤ 0 := by
  have h1 : ¬ cmpR a.1.2.2.1 b.1.2.2.1 < 0 := fun h2 => by rw [(ltC_iff a b).2 (.inl h2)] at h; cases h
  have h2 : ¬ 0 < cmpR b.1.2.2.1 a.1.2.2.1 := fun h3 => h1 ((cmpR_neg _ _).2 h3)
  omega
theorem ordC : Ord ltC where
  irrefl x := by
    cases h : ltC x x with
    | false => rfl
    | true =>
      rcases (ltC_iff x x).1 h with h | h
      · rw [cmpR_self] at h; omega
      · omega
  trans x y z h1 h2 := by
    rw [ltC_iff] at *
    rcases h1 with h1 | ⟨h1, h1'⟩ <;> rcases h2 with h2 | ⟨h2, h2'⟩
    · exact .inl (cmpR_trans h1 h2)
    · rw [← h2]; exact .inl h1
    · rw [h1]; exact .inl h2
    · exact .inr ⟨h1.trans h2, by omega⟩
  ntrans x y z h1 h2 := by
    cases h : ltC x z with
    | false => rfl
    | true =>
      have n1 : ¬ (ltC x y = true) := by rw [h1]; simp
      have n2 : ¬ (ltC y z = true) := by rw [h2]; simp
      rw [ltC_iff] at n1 n2 h
      rcases cmpR_tri x.1.2.2.1 y.1.2.2.1 with a | a | a
      · exact absurd (.inl a) n1
      · rcases cmpR_tri y.1.2.2.1 z.1.2.2.1 with b | b | b
        · exact absurd (.inl b) n2
        · rcases h with h | ⟨_, h⟩
          · rw [a, b, cmpR_self] at h; omega
          · exact absurd (show x.2 < y.2 ∨ y.2 < z.2 by omega) (fun hh => by
              rcases hh with hh | hh
              · exact n1 (.inr ⟨a, hh⟩)
              · exact n2 (.inr ⟨b, hh⟩))
        · rw [a] at h
          rcases h with h | ⟨h, _⟩
          · have := (cmpR_neg _ _).1 h
            have := (cmpR_neg _ _).2 b
            have c := cmpR_trans h this; rw [cmpR_self] at c; omega
          · rw [h, cmpR_self] at b; omega
      · have a' := (cmpR_neg _ _).2 a
        have yz : cmpR y.1.2.2.1 z.1.2.2.1 < 0 := by
          rcases h with h | ⟨h, _⟩
          · exact cmpR_trans a' h
          · rw [← h]; exact a'
        exact absurd (.inl yz) n2
theorem befC : BeforeIs fC ltC := fun _ _ _ _ _ h i j hi hj => before_cur h i j hi hj

/-- The heap at block g, its list at block own: it holds the bag. -/
def HS (w : World) (g : Nat) (own : Option Nat) (bag : List CE) (p : Int) : Prop :=
  ∃ lv es, HeapAt w g fC lv es p ∧ IsHeap ltC es ∧ es.Perm bag ∧ lv.ownBlock = own
theorem HS.keeps {N : Nat → Prop} {w w' : World} {g : Nat} {own : Option Nat} {bag : List CE} {p : Int} (h : HS w g own bag p) (hk : Keeps N w w') (hg : ¬ N g) (ho : ∀ b, own = some b → ¬ N b) (hr : ∀ e ∈ bag, ∀ q, e.1.2.1 = some q → ¬ N q.block) : HS w' g own bag p := by
  obtain ⟨lv, es, hA, hI, hP, hO⟩ := h
  exact ⟨lv, es, hA.keeps hk hg (fun b hb => ho b (hO ▸ hb)) (fun e he => hr e (hP.subset he)), hI, hP, hO⟩
theorem HS.below {w w' : World} {g : Nat} {own : Option Nat} {bag : List CE} {p : Int} (h : HS w g own bag p) (hb : Below w.heap.size w w') : HS w' g own bag p :=
  h.keeps (N := fun _ => False) (Keeps.of_below hb) (fun h => h) (fun _ _ h => h) (fun _ _ _ _ h => h)
theorem HS.lt {w : World} {g : Nat} {own : Option Nat} {bag : List CE} {p : Int} (h : HS w g own bag p) : g < w.heap.size ∧ ∀ b, own = some b → b < w.heap.size := by
  obtain ⟨lv, es, hA, hI, hP, hO⟩ := h
  exact ⟨hA.lt, fun b hb => (hA.row.lt b (hO.trans hb)).2⟩
theorem HS.rd {w : World} {g : Nat} {own : Option Nat} {bag : List CE} {p : Int} (h : HS w g own bag p) : Rd w g own bag := by
  obtain ⟨lv, es, hA, hI, hP, hO⟩ := h
  rw [← hO]; exact hA.rd.sub (fun e he => hP.symm.subset he)
theorem HS.perm {w : World} {g : Nat} {own : Option Nat} {bag bag' : List CE} {p : Int} (h : HS w g own bag p) (hp : bag.Perm bag') : HS w g own bag' p := by
  obtain ⟨lv, es, hA, hI, hP, hO⟩ := h
  exact ⟨lv, es, hA, hI, hP.trans hp, hO⟩
theorem hs_new (w : World) : HS (w.alloc (.cells #[fC, .slice none 0 0, .int .i64 0] 108)) w.heap.size none [] 0 :=
  ⟨.slice none 0 0, [], ⟨heap_alloc_new w _, World.ownsRow_nil _ _ _ _, by simp [Value.ownBlock], fun e he => by cases he⟩, heap_nil, List.Perm.refl _, rfl⟩

def PushRet (w : World) (g : Nat) (own : Option Nat) (bag : List CE) (p : Int) (v : CV) (e : Ending) (w' : World) : Prop :=
  e = .returned (.tuple #[]) ∧ ∃ own', HS w' g own' ((v, p) :: bag) (p + 1) ∧ Keeps (fun b => b = g ∨ own = some b) w w' ∧ ∀ b, own' = some b → own = some b ∨ w.heap.size ≤ b
theorem hs_push {w : World} {g : Nat} {own : Option Nat} {bag : List CE} {p : Int} (h : HS w g own bag p) (v : CV) (hv : Rd1 w g own v.2) (hlen : bag.length + 1 ≤ 1000000) (hp0 : 0 ≤ p) (hp1 : p ≤ 1000000) :
    Calls Try.prog 79 #[.pointer (some ⟨g, 0, none⟩), cuV v] w (PushRet w g own bag p v) := by
  obtain ⟨lv, es, hA, hI, hP, hO⟩ := h
  refine (push_calls ordC befC hA v (by rw [hO]; exact hv) hI (by rw [hP.length_eq]; exact hlen) hp0 hp1).mono fun e w' ⟨he, lv', es', h1, h2, h3, h4, h5⟩ => ?_
  exact ⟨he, _, ⟨lv', es', h1, h2, h3.trans (hP.cons _), rfl⟩, by rw [← hO]; exact h4, by rw [← hO]; exact h5⟩
def PopRet (w : World) (g : Nat) (own : Option Nat) (bag : List CE) (p : Int) (e : Ending) (w' : World) : Prop :=
  ∃ x bag', e = .returned (.tuple #[cuV x.1, .bool true]) ∧ bag.Perm (x :: bag') ∧ (∀ y ∈ bag', ltC y x = false) ∧ HS w' g own bag' p ∧ Keeps (fun b => b = g ∨ own = some b) w w'
theorem hs_pop {w : World} {g : Nat} {own : Option Nat} {bag : List CE} {p : Int} (h : HS w g own bag p) (h0 : 0 < bag.length) (hlen : bag.length ≤ 1000000) :
    Calls Try.prog 65 #[.pointer (some ⟨g, 0, none⟩)] w (PopRet w g own bag p) := by
  obtain ⟨lv, es, hA, hI, hP, hO⟩ := h
  have hl := hP.length_eq
  refine (pop_calls ordC befC hA hI (by omega) (by omega)).mono fun e w' ⟨he, lv', es', h1, h2, h3, h4, h5⟩ => ?_
  refine ⟨atE es 0, es', he, hP.symm.trans h3, fun y hy => ?_, ⟨lv', es', h1, h2, List.Perm.refl _, h5.trans hO⟩, by rw [← hO]; exact h4⟩
  obtain ⟨j, hj, e⟩ := mem_atE (h3.symm.subset (List.mem_cons_of_mem _ hy))
  rw [← e]; exact heap_min ordC hI j hj
theorem hs_pop_none {w : World} {g : Nat} {own : Option Nat} {p : Int} (h : HS w g own [] p) :
    Calls Try.prog 65 #[.pointer (some ⟨g, 0, none⟩)] w fun e w' => e = .returned (.tuple #[.agg #[.pointer none, .int .i64 0, .slice none 0 0], .bool false]) ∧ Below w.heap.size w w' := by
  obtain ⟨lv, es, hA, hI, hP, hO⟩ := h
  obtain rfl : es = [] := hP.eq_nil
  exact pop_none hA
end Go.Proofs.Ytepkmhcchmladaa.Cu
