/- Contract of down: the entry at an index is moved away from the root. -/
import Derived.Test.YtfpocoaddmgakaaHp3
namespace Go.Proofs.Ytfpocoaddmgakaa
open Go.RowKit
set_option linter.unusedVariables false
set_option linter.unusedSimpArgs false

/-- f is the least of i and its kids below c. -/
def LeastOf (lt : (Int × Int) → (Int × Int) → Bool) (fs : List (Int × Int)) (i c f : Nat) : Prop :=
  (f = i ∨ (2 * i + 1 ≤ f ∧ f < c ∧ lt (atE fs f) (atE fs i) = true)) ∧ f < fs.length ∧ ∀ j, 2 * i + 1 ≤ j → j < c → j < fs.length → lt (atE fs j) (atE fs f) = false
theorem least_start {lt : (Int × Int) → (Int × Int) → Bool} {fs : List (Int × Int)} {i : Nat} (h : i < fs.length) : LeastOf lt fs i (2 * i + 1) i := ⟨.inl rfl, h, fun j h1 h2 => by omega⟩
theorem least_yes {lt : (Int × Int) → (Int × Int) → Bool} (O : Ord lt) {fs : List (Int × Int)} {i c f : Nat} (h : LeastOf lt fs i c f) (hc : 2 * i + 1 ≤ c) (hl : c < fs.length) (hb : lt (atE fs c) (atE fs f) = true) : LeastOf lt fs i (c + 1) c := by
  refine ⟨.inr ⟨hc, by omega, ?_⟩, hl, fun j h1 h2 h3 => ?_⟩
  · rcases h.1 with e | ⟨_, _, h'⟩
    · rw [e] at hb; exact hb
    · exact O.trans _ _ _ hb h'
  · by_cases e : j = c
    · rw [e]; exact O.irrefl _
    · have h4 := h.2.2 j h1 (by omega) h3
      cases h5 : lt (atE fs j) (atE fs c) with
      | false => rfl
      | true => have := O.trans _ _ _ h5 hb; rw [h4] at this; cases this
theorem least_no {lt : (Int × Int) → (Int × Int) → Bool} {fs : List (Int × Int)} {i c f : Nat} (h : LeastOf lt fs i c f) (hb : lt (atE fs c) (atE fs f) = false) : LeastOf lt fs i (c + 1) f := by
  refine ⟨?_, h.2.1, fun j h1 h2 h3 => ?_⟩
  · rcases h.1 with e | ⟨h1, h2, h3⟩
    · exact .inl e
    · exact .inr ⟨h1, by omega, h3⟩
  · by_cases e : j = c
    · rw [e]; exact hb
    · exact h.2.2 j h1 (by omega) h3
/-- At the end all kids are looked at. -/
theorem least_all {lt : (Int × Int) → (Int × Int) → Bool} {fs : List (Int × Int)} {i c f : Nat} (h : LeastOf lt fs i c f) (hc : c = 2 * i + 3 ∨ fs.length ≤ c) : ∀ j, 0 < j → j < fs.length → (j - 1) / 2 = i → lt (atE fs j) (atE fs f) = false := by
  intro j h0 h1 h2
  exact h.2.2 j (by omega) (by omega) h1

set_option maxRecDepth 100000 in
set_option maxHeartbeats 4000000 in
theorem down_calls {fv : Value} {lt : (Int × Int) → (Int × Int) → Bool} (O : Ord lt) (B : BeforeIs fv lt) {w : World} {g : Nat} {lv : Value} {es : List (Int × Int)} {p : Int} (h : HeapAt w g fv lv es p) (i : Nat) (hi : i < es.length) (hdn : DownOK lt es i) (hlen : es.length ≤ 1000000) :
    Calls Try.prog 30 #[.pointer (some ⟨g, 0, none⟩), .int .i64 i] w (Moved lt w g fv lv es p) := by
  obtain ⟨r, cap, hlv, hlc, hcm, hrg, hrl⟩ := h.form' (by omega)
  unfold maxLen at hcm
  obtain ⟨n, hn⟩ : ∃ n, es.length = n := ⟨_, rfl⟩
  rw [hn] at hlv hlc hlen hi
  subst hlv
  have HN := Lib.hid hn
  clear hn
  have H0 := Lib.hid (show HeapAt w g fv (.slice (some ⟨r, 0, none⟩) n cap) es p ∧ DownOK lt es i from ⟨h, hdn⟩)
  clear h hdn
  go_enter Try.func30, Try.ntmps30
  go_wp2_with fail
  go_loopw [1] (fun s wr => ∃ (k : Nat) (fs : List (Int × Int)), k < n ∧ s = .int .i64 k ∧ Hid (fs.length = n) ∧ Hid (HeapAt wr g fv (.slice (some ⟨r, 0, none⟩) n cap) fs p) ∧ Hid (DownOK lt fs k) ∧ Hid (fs.Perm es) ∧ Hid (Keeps (fun b => r = b) w wr))
    (fun s _ => n - (intOf s).toNat)
  case atStart => exact ⟨i, es, hi, rfl, HN, Lib.hid H0.out.1, Lib.hid H0.out.2, Lib.hid (List.Perm.refl _), Lib.hid (Keeps.refl _ _)⟩
  case round =>
    obtain ⟨k, fs, hk, rfl, HL, HH, HU, HP, HK⟩ := hrel
    obtain ⟨wm, rfl⟩ : ∃ x, x = wr := ⟨wr, rfl⟩
    go_wp2_with fail
    go_loopw [4, 5] (fun s4 s5 wv => ∃ f c : Nat, s4 = .int .i64 f ∧ s5 = .int .i64 c ∧ 2 * k + 1 ≤ c ∧ c ≤ 2 * k + 3 ∧ Hid (LeastOf lt fs k c f) ∧ Hid (Below wm.heap.size wm wv)) (fun _ s5 _ => 2 * k + 3 - (intOf s5).toNat)
    case atStart => exact ⟨k, 2 * k + 1, rfl, by go_num, by omega, by omega, Lib.hid (least_start (by rw [HL.out]; exact hk)), Lib.hid (Below.refl _ _)⟩
    case round =>
      obtain ⟨f, c, rfl, rfl, hc1, hc2, HLe, HBe⟩ := hrel
      obtain ⟨_, c1, _⟩ := (HH.out.below HBe.out).cell
      have hfn : f < n := by have := HLe.out.2.1; rw [HL.out] at this; exact this
      by_cases h3 : c = 2 * k + 3
      · have t1 : decide ((c : Int) ≤ 2 * (k : Int) + 2) = false := decide_eq_false (by omega)
        have HA := Lib.hid (least_all HLe.out (.inl h3))
        have h3' : 2 * k + 3 ≤ c := by omega
        clear h3
        by_cases hfk : f = k
        · subst hfk
          go_wp2_with fail
          go_end0
          exact ⟨rfl, fs, HH.out.below HBe.out, down_stop HU.out HA.out, HP.out, (HK.out.trans (Keeps.of_below HBe.out)).mono (fun b _ e => by simp [Value.ownBlock, e])⟩
        · have t9 : ((f : Int) == (k : Int)) = false := beq_eq_false_iff_ne.2 (by omega)
          go_wp2_with fail
          have H1 := HH.out.below HBe.out
          have hk' : k < fs.length := by rw [HL.out]; exact hk
          have hq' : f < fs.length := by rw [HL.out]; omega
          have H2 := H1
          rw [← HL.out] at H2
          obtain ⟨fk1, fk2⟩ := flat_at hk'
          obtain ⟨fq1, fq2⟩ := flat_at hq'
          have dk1 := H2.row.cellAt (k * 2) (by omega)
          have dk2 := H2.row.cellAt (k * 2 + 1) (by omega)
          have dq1 := H2.row.cellAt (f * 2) (by omega)
          have dq2 := H2.row.cellAt (f * 2 + 1) (by omega)
          rw [fk1] at dk1
          rw [fk2] at dk2
          rw [fq1] at dq1
          rw [fq2] at dq2
          have zk1 := H2.row.frozenAt (k * 2)
          have zk2 := H2.row.frozenAt (k * 2 + 1)
          have zq1 := H2.row.frozenAt (f * 2)
          have zq2 := H2.row.frozenAt (f * 2 + 1)
          have SW := Lib.hid (heap_swap H2 k f hk' hq')
          clear H1 H2 fk1 fk2 fq1 fq2
          obtain ⟨x1, hx1⟩ : ∃ x, (atE fs k).1 = x := ⟨_, rfl⟩
          obtain ⟨x2, hx2⟩ : ∃ x, (atE fs k).2 = x := ⟨_, rfl⟩
          obtain ⟨y1, hy1⟩ : ∃ x, (atE fs f).1 = x := ⟨_, rfl⟩
          obtain ⟨y2, hy2⟩ : ∃ x, (atE fs f).2 = x := ⟨_, rfl⟩
          rw [hx1] at dk1
          rw [hx2] at dk2
          rw [hy1] at dq1
          rw [hy2] at dq2
          rw [hx1, hx2, hy1, hy2] at SW
          clear hx1 hx2 hy1 hy2 hk' hq'
          have bk : (k : Int) < (n : Int) := by omega
          have bk0 : (0 : Int) ≤ (k : Int) := by omega
          have bq : (f : Int) < (n : Int) := by omega
          have bq0 : (0 : Int) ≤ (f : Int) := by omega
          have n1 : ¬ k = f := by omega
          have n3 : ¬ k * 2 = f * 2 + 1 := by omega
          have n4 : ¬ f * 2 = k * 2 + 1 := by omega
          have n5 : ¬ k * 2 + 1 = f * 2 := by omega
          have n6 : ¬ f * 2 + 1 = k * 2 := by omega
          go_region
          have KS := Lib.hid (((((HK.out.trans (Keeps.of_below HBe.out)).setCell (p := ⟨r, k * 2, none⟩) rfl (.int .i64 y1)).setCell (p := ⟨r, k * 2 + 1, none⟩) rfl (.int .i64 y2)).setCell (p := ⟨r, f * 2, none⟩) rfl (.int .i64 x1)).setCell (p := ⟨r, f * 2 + 1, none⟩) rfl (.int .i64 x2))
          have hkf : k < f := by
            rcases HLe.out.1 with e | ⟨e, _, _⟩
            · exact absurd e hfk
            · omega
          have HD := Lib.hid (show DownOK lt (swpL fs k f) f from by
            rcases HLe.out.1 with e | ⟨e1, e2, e3⟩
            · exact absurd e hfk
            · exact down_step O HU.out (by omega) (by rw [HL.out]; exact hfn) (by omega) e3 HA.out)
          clear dk1 dk2 dq1 dq2 zk1 zk2 zq1 zq2 c1
          generalize World.setCell (World.setCell _ _ _) _ _ = W at *
          go_wp2_with fail
          go_roundw
          case rel =>
            refine ⟨f, swpL fs k f, by omega, rfl, Lib.hid (by rw [swpL_len]; exact HL.out), Lib.hid ?_, HD, Lib.hid ?_, Lib.hid ?_⟩
            · have := SW.out.drewN 1; rw [HL.out] at this; exact this
            · exact (perm_swp (by rw [HL.out]; exact hk) (by rw [HL.out]; omega)).trans HP.out
            · exact ⟨KS.out.os, KS.out.tape, KS.out.output, KS.out.size, KS.out.block⟩
          case measure => simp [intOf]; omega
      · have t1 : (c : Int) ≤ 2 * (k : Int) + 2 := by omega
        by_cases h4 : c < n
        · obtain ⟨b, hb⟩ : ∃ b, lt (atE fs c) (atE fs f) = b := ⟨_, rfl⟩
          have HB := Lib.hid hb
          have cb : Calls Try.prog 31 #[.pointer (some ⟨g, 0, none⟩), .int .i64 c, .int .i64 f] wr fun e w' => e = .returned (.bool b) ∧ Below wr.heap.size wr w' := by
            rw [← hb]; exact B wr g _ fs p (HH.out.below HBe.out) c f (by rw [HL.out]; exact h4) (by rw [HL.out]; exact hfn)
          clear hb
          cases b
          · go_wp2_with (first | (go_at_call 31; refine cb.mono ?_; rintro e w' ⟨rfl, hbel⟩; have BE := Lib.hid hbel; clear hbel))
            go_roundw
            case rel => exact ⟨f, c + 1, rfl, by go_num, by omega, by omega, Lib.hid (least_no HLe.out HB.out), Lib.hid (HBe.out.trans (BE.out.mono HBe.out.size))⟩
            case measure => simp [intOf]; omega
          · go_wp2_with (first | (go_at_call 31; refine cb.mono ?_; rintro e w' ⟨rfl, hbel⟩; have BE := Lib.hid hbel; clear hbel))
            go_roundw
            case rel => exact ⟨c, c + 1, rfl, by go_num, by omega, by omega, Lib.hid (least_yes O HLe.out hc1 (by rw [HL.out]; exact h4) HB.out), Lib.hid (HBe.out.trans (BE.out.mono HBe.out.size))⟩
            case measure => simp [intOf]; omega
        · have HA := Lib.hid (least_all HLe.out (.inr (by rw [HL.out]; omega)))
          have t2 : decide (c < n) = false := decide_eq_false (by omega)
          by_cases hfk : f = k
          · subst hfk
            go_wp2_with fail
            go_end0
            exact ⟨rfl, fs, HH.out.below HBe.out, down_stop HU.out HA.out, HP.out, (HK.out.trans (Keeps.of_below HBe.out)).mono (fun b _ e => by simp [Value.ownBlock, e])⟩
          · have t9 : ((f : Int) == (k : Int)) = false := beq_eq_false_iff_ne.2 (by omega)
            go_wp2_with fail
            have H1 := HH.out.below HBe.out
            have hk' : k < fs.length := by rw [HL.out]; exact hk
            have hq' : f < fs.length := by rw [HL.out]; omega
            have H2 := H1
            rw [← HL.out] at H2
            obtain ⟨fk1, fk2⟩ := flat_at hk'
            obtain ⟨fq1, fq2⟩ := flat_at hq'
            have dk1 := H2.row.cellAt (k * 2) (by omega)
            have dk2 := H2.row.cellAt (k * 2 + 1) (by omega)
            have dq1 := H2.row.cellAt (f * 2) (by omega)
            have dq2 := H2.row.cellAt (f * 2 + 1) (by omega)
            rw [fk1] at dk1
            rw [fk2] at dk2
            rw [fq1] at dq1
            rw [fq2] at dq2
            have zk1 := H2.row.frozenAt (k * 2)
            have zk2 := H2.row.frozenAt (k * 2 + 1)
            have zq1 := H2.row.frozenAt (f * 2)
            have zq2 := H2.row.frozenAt (f * 2 + 1)
            have SW := Lib.hid (heap_swap H2 k f hk' hq')
            clear H1 H2 fk1 fk2 fq1 fq2
            obtain ⟨x1, hx1⟩ : ∃ x, (atE fs k).1 = x := ⟨_, rfl⟩
            obtain ⟨x2, hx2⟩ : ∃ x, (atE fs k).2 = x := ⟨_, rfl⟩
            obtain ⟨y1, hy1⟩ : ∃ x, (atE fs f).1 = x := ⟨_, rfl⟩
            obtain ⟨y2, hy2⟩ : ∃ x, (atE fs f).2 = x := ⟨_, rfl⟩
            rw [hx1] at dk1
            rw [hx2] at dk2
            rw [hy1] at dq1
            rw [hy2] at dq2
            rw [hx1, hx2, hy1, hy2] at SW
            clear hx1 hx2 hy1 hy2 hk' hq'
            have bk : (k : Int) < (n : Int) := by omega
            have bk0 : (0 : Int) ≤ (k : Int) := by omega
            have bq : (f : Int) < (n : Int) := by omega
            have bq0 : (0 : Int) ≤ (f : Int) := by omega
            have n1 : ¬ k = f := by omega
            have n3 : ¬ k * 2 = f * 2 + 1 := by omega
            have n4 : ¬ f * 2 = k * 2 + 1 := by omega
            have n5 : ¬ k * 2 + 1 = f * 2 := by omega
            have n6 : ¬ f * 2 + 1 = k * 2 := by omega
            go_region
            have KS := Lib.hid (((((HK.out.trans (Keeps.of_below HBe.out)).setCell (p := ⟨r, k * 2, none⟩) rfl (.int .i64 y1)).setCell (p := ⟨r, k * 2 + 1, none⟩) rfl (.int .i64 y2)).setCell (p := ⟨r, f * 2, none⟩) rfl (.int .i64 x1)).setCell (p := ⟨r, f * 2 + 1, none⟩) rfl (.int .i64 x2))
            have hkf : k < f := by
              rcases HLe.out.1 with e | ⟨e, _, _⟩
              · exact absurd e hfk
              · omega
            have HD := Lib.hid (show DownOK lt (swpL fs k f) f from by
              rcases HLe.out.1 with e | ⟨e1, e2, e3⟩
              · exact absurd e hfk
              · exact down_step O HU.out (by omega) (by rw [HL.out]; exact hfn) (by omega) e3 HA.out)
            clear dk1 dk2 dq1 dq2 zk1 zk2 zq1 zq2 c1
            generalize World.setCell (World.setCell _ _ _) _ _ = W at *
            go_wp2_with fail
            go_roundw
            case rel =>
              refine ⟨f, swpL fs k f, by omega, rfl, Lib.hid (by rw [swpL_len]; exact HL.out), Lib.hid ?_, HD, Lib.hid ?_, Lib.hid ?_⟩
              · have := SW.out.drewN 1; rw [HL.out] at this; exact this
              · exact (perm_swp (by rw [HL.out]; exact hk) (by rw [HL.out]; omega)).trans HP.out
              · exact ⟨KS.out.os, KS.out.tape, KS.out.output, KS.out.size, KS.out.block⟩
            case measure => simp [intOf]; omega
end Go.Proofs.Ytfpocoaddmgakaa
