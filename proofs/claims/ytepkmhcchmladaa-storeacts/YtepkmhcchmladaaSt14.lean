/- StoreRuns walked. -/
import Derived.Test.YtepkmhcchmladaaSt13
namespace Go.Proofs.Ytepkmhcchmladaa
open Go.RowKit Go.Shelf Go.Maps
set_option linter.unusedVariables false
set_option linter.unusedSimpArgs false

/-- What is said of a store. -/
structure SD where
  N : Nat → Prop
  g : Nat
  most : Int
  runs : List (List (List Int))
  dl : List (List Int)
def SD.Is (s : SD) (G : Nat → Prop) (w : World) (wd : Nat) : Prop := StS s.N G w s.g wd s.most s.runs s.dl
/-- Three stores that the call has made. -/
structure T3 (B : Nat) (W : World) (G : Nat → Prop) (w : World) (wd : Nat) (x y z : SD) : Prop where
  ax : x.Is G w wd
  ay : y.Is G w wd
  az : z.Is G w wd
  xy : ∀ b, x.N b → ¬ y.N b
  xz : ∀ b, x.N b → ¬ z.N b
  yz : ∀ b, y.N b → ¬ z.N b
  bel : Below B W w
  new : ∀ b, G b → B ≤ b
  hB : W.heap.size = B
theorem T3.rot {B : Nat} {W w : World} {G : Nat → Prop} {wd : Nat} {x y z : SD} (h : T3 B W G w wd x y z) : T3 B W G w wd y z x :=
  ⟨h.ay, h.az, h.ax, h.yz, fun b h1 h2 => h.xy b h2 h1, fun b h1 h2 => h.xz b h2 h1, h.bel, h.new, h.hB⟩
theorem T3.size {B : Nat} {W w : World} {G : Nat → Prop} {wd : Nat} {x y z : SD} (h : T3 B W G w wd x y z) : B ≤ w.heap.size := by have := h.bel.size; rw [h.hB] at this; exact this
theorem T3.below {B : Nat} {W w w' : World} {G : Nat → Prop} {wd : Nat} {x y z : SD} (h : T3 B W G w wd x y z) (hb : Below w.heap.size w w') : T3 B W G w' wd x y z :=
  ⟨StS.below h.ax hb, StS.below h.ay hb, StS.below h.az hb, h.xy, h.xz, h.yz, h.bel.trans (hb.mono h.size), h.new, h.hB⟩
theorem T3.row {B : Nat} {W w : World} {G : Nat → Prop} {wd : Nat} {x y z : SD} (h : T3 B W G w wd x y z) {wd' : Nat} {q : Option Addr} {rows : List (List Int)} {w' : World} (hl : ∀ X, Later w.heap.size w' X → Seg X q wd' rows) : SegN G w' wd' (q, rows) :=
  SegN.new (s := (q, rows)) hl (StS.lt h.ax)
theorem t3_x {B : Nat} {W w : World} {G : Nat → Prop} {wd : Nat} {x y z : SD} (h : T3 B W G w wd x y z) {v : Value} {runs : List (List (List Int))} {dl : List (List Int)} {e : Ending} {w' : World} (hr : StRet x.N G w x.g wd x.most v runs dl e w') :
    e = .returned v ∧ ∃ N' G', T3 B W G' w' wd ⟨N', x.g, x.most, runs, dl⟩ y z ∧ ∀ wd' s, SegN G w wd' s → SegN G' w' wd' s := by
  obtain ⟨he, N', h1, h2, h3, h4⟩ := hr
  have hsub := StS.sub h.ax
  have hGG : ∀ b, (G b ∨ N' b) → G b ∨ w.heap.size ≤ b := fun b hb => by
    rcases hb with h5 | h5
    · exact .inl h5
    · rcases h2 b h5 with h6 | h6
      · exact .inl (hsub b h6)
      · exact .inr h6
  have hlt := StS.lt h3
  refine ⟨he, N', _, ⟨h3, StS.keeps h.ay h4 hsub h.xy hGG (fun b hb => .inl (StS.sub h.ay b hb)) hlt, StS.keeps h.az h4 hsub h.xz hGG (fun b hb => .inl (StS.sub h.az b hb)) hlt, fun b hb hy => ?_, fun b hb hy => ?_, h.yz, h.bel.trans (h4.below h.size (fun b hb => h.new b (hsub b hb))), fun b hb => ?_, h.hB⟩, fun wd' s hs => hs.step h4 hsub hGG⟩
  · rcases h2 b hb with h6 | h6
    · exact h.xy b h6 hy
    · have := StS.lt h.ay b (StS.sub h.ay b hy); omega
  · rcases h2 b hb with h6 | h6
    · exact h.xz b h6 hy
    · have := StS.lt h.az b (StS.sub h.az b hy); omega
  · rcases hGG b hb with h6 | h6
    · exact h.new b h6
    · exact Nat.le_trans h.size h6
theorem t3_y {B : Nat} {W w : World} {G : Nat → Prop} {wd : Nat} {x y z : SD} (h : T3 B W G w wd x y z) {v : Value} {runs : List (List (List Int))} {dl : List (List Int)} {e : Ending} {w' : World} (hr : StRet y.N G w y.g wd y.most v runs dl e w') :
    e = .returned v ∧ ∃ N' G', T3 B W G' w' wd x ⟨N', y.g, y.most, runs, dl⟩ z ∧ ∀ wd' s, SegN G w wd' s → SegN G' w' wd' s := by
  obtain ⟨he, N', G', h1, h2⟩ := t3_x h.rot hr
  exact ⟨he, N', G', h1.rot.rot, h2⟩
theorem t3_z {B : Nat} {W w : World} {G : Nat → Prop} {wd : Nat} {x y z : SD} (h : T3 B W G w wd x y z) {v : Value} {runs : List (List (List Int))} {dl : List (List Int)} {e : Ending} {w' : World} (hr : StRet z.N G w z.g wd z.most v runs dl e w') :
    e = .returned v ∧ ∃ N' G', T3 B W G' w' wd x y ⟨N', z.g, z.most, runs, dl⟩ ∧ ∀ wd' s, SegN G w wd' s → SegN G' w' wd' s := by
  obtain ⟨he, N', G', h1, h2⟩ := t3_x h.rot.rot hr
  exact ⟨he, N', G', h1.rot, h2⟩
theorem minus_congr {rs S T : List (List Int)} (h : S.Perm T) : minusR rs T = minusR rs S := by
  unfold minusR
  exact List.filter_congr (fun x _ => decide_eq_decide.2 (not_congr h.symm.mem_iff))
theorem rel_congr {wd : Nat} {S T : List (List Int)} (h : S.Perm T) : relOf (wd : Int) T = relOf (wd : Int) S :=
  sorted_ext (rel_sorted _ _) (rel_sorted _ _) (fun x => by rw [mem_rel, mem_rel, h.mem_iff])
theorem compact_perm {wd : Nat} {R : List (List (List Int))} (hw : ∀ r ∈ R.flatten, r.length = wd) (hn : R.flatten.Nodup) : (compactR wd R).flatten.Perm R.flatten ∧ (compactR wd R).length ≤ 1 := by
  unfold compactR
  split
  · rw [List.flatten_cons, List.flatten_nil, List.append_nil]; exact ⟨join_perm hw hn, by simp⟩
  · exact ⟨List.Perm.refl _, by omega⟩
/-- Three stores behind k lists. -/
def RS3 (B : Nat) (W : World) (wd ga gb gc : Nat) (ma mo : Int) (k : Nat) (wr : World) : Prop :=
  ∃ (Na Nb Nc G : Nat → Prop) (Ra Rb Rc : List (List (List Int))) (da db dc : List (List Int)), T3 B W G wr wd ⟨Na, ga, ma, Ra, da⟩ ⟨Nb, gb, mo, Rb, db⟩ ⟨Nc, gc, 0, Rc, dc⟩ ∧ Ra.flatten.Perm Rb.flatten ∧ Ra.flatten.Perm Rc.flatten ∧ Ra.length ≤ k ∧ Rb.length ≤ k ∧ Rc.length ≤ 1 ∧ Ra.flatten.length ≤ 60 * k
theorem new_store {B : Nat} {W w w' : World} {G : Nat → Prop} {wd g : Nat} {most : Int} (hB : W.heap.size = B) (hS : B ≤ w.heap.size) (h1 : w.heap.size ≤ g) (hG : ∀ b, G b → b < w.heap.size) (h3 : ∀ G : Nat → Prop, (∀ b, G b → b < w.heap.size) → StS (fun b => b = g) (fun b => G b ∨ b = g) w' g wd most [] []) : StS (fun b => b = g) (fun b => G b ∨ b = g) w' g wd most [] [] := h3 G hG
set_option maxRecDepth 100000 in
set_option maxHeartbeats 4000000 in
theorem storeRuns_walk {W : World} (width most other : Int) {a : Option Addr} {T : List TV} (cap : Nat) (h : TArgsR W a T) (hw : -9223372036854775808 ≤ width ∧ width ≤ 9223372036854775807) (hm : -9223372036854775808 ≤ most ∧ most ≤ 9223372036854775807) (ho : -9223372036854775808 ≤ other ∧ other ≤ 9223372036854775807) :
    Calls Try.prog 5 #[.int .i64 width, .int .i64 most, .int .i64 other, .slice a T.length cap] W (TrueRet5 W) := by
  have hd := head11_calls W
  obtain ⟨B, hB⟩ : ∃ B, W.heap.size = B := ⟨_, rfl⟩
  have HB := Lib.hid hB
  have H := Lib.hid h
  obtain ⟨wd, hwd3, hwde⟩ := width4 width
  clear h hB
  go_enter Try.func5, Try.ntmps5
  go_wp2_with fail
  refine hd.mono ?_
  rintro e w1 ⟨rfl, hb1⟩
  have B1 : Hid (Below B W w1) := Lib.hid (by rw [← HB.out]; exact hb1)
  clear hd hb1
  by_cases h12 : 12 < T.length
  · have t1 : decide ((12 : Int) < (T.length : Int)) = true := decide_eq_true (by omega)
    go_wp2_with fail
    go_ret
    exact ⟨rfl, by rw [HB.out]; exact B1.out⟩
  · have t1 : decide ((12 : Int) < (T.length : Int)) = false := decide_eq_false (by omega)
    go_wp2_with fail
    rw [hwde]
    clear hwde
    generalize bits .and .i64 most 7 = ma at *
    refine (stNew_calls wd ma w1 (by omega)).mono ?_
    rintro e w2 ⟨ga, rfl, ha1, ha2, ha3, hab⟩
    have A2 := Lib.hid (And.intro ha1 (And.intro ha2 (And.intro ha3 hab)))
    clear ha1 ha2 ha3 hab
    go_wp2_with fail
    generalize bits .and .i64 other 7 = mo at *
    refine (stNew_calls wd mo w2 (by omega)).mono ?_
    rintro e w3 ⟨gb, rfl, hb1, hb2, hb3, hbb⟩
    have A3 := Lib.hid (And.intro hb1 (And.intro hb2 (And.intro hb3 hbb)))
    clear hb1 hb2 hb3 hbb
    go_wp2_with fail
    refine (stNew_calls wd 0 w3 (by omega)).mono ?_
    rintro e w4 ⟨gc, rfl, hc1, hc2, hc3, hcb⟩
    have D4 : Hid (RS3 B W wd ga gb gc ma mo 0 w4) := Lib.hid (by
      obtain ⟨ha1, ha2, ha3, hab⟩ := A2.out
      obtain ⟨hb1, hb2, hb3, hbb⟩ := A3.out
      have s1 : B ≤ w1.heap.size := by have := B1.out.size; rw [HB.out] at this; exact this
      have sa := ha3 (fun _ => False) (fun _ h => h.elim)
      have sb := hb3 (fun b => False ∨ b = ga) (StS.lt sa)
      have sc := hc3 (fun b => (False ∨ b = ga) ∨ b = gb) (StS.lt sb)
      have hs3 := hbb.size
      have hs2 := hab.size
      refine ⟨fun b => b = ga, fun b => b = gb, fun b => b = gc, _, [], [], [], [], [], [], ⟨?_, ?_, sc, fun b h1 h2 => ?_, fun b h1 h2 => ?_, fun b h1 h2 => ?_, B1.out.trans ((hab.mono s1).trans ((hbb.mono (by omega)).trans (hcb.mono (by omega)))), fun b hb => ?_, HB.out⟩, List.Perm.refl _, List.Perm.refl _, Nat.le_refl _, Nat.le_refl _, Nat.zero_le _, Nat.le_refl _⟩
      · exact (StS.keeps sa (M := fun _ => False) (Keeps.of_below (hbb.trans (hcb.mono hs3))) (fun _ h => h.elim) (fun _ h => h.elim) (fun b hb => by
          rcases hb with (h | h) | h
          · exact .inl h
          · exact .inr (by omega)
          · exact .inr (by omega)) (fun b hb => .inl (.inl (.inr hb))) (StS.lt sc))
      · exact (StS.keeps sb (M := fun _ => False) (Keeps.of_below hcb) (fun _ h => h.elim) (fun _ h => h.elim) (fun b hb => by
          rcases hb with h | h
          · exact .inl h
          · exact .inr (by omega)) (fun b hb => .inl (.inr hb)) (StS.lt sc))
      · change b = ga at h1
        change b = gb at h2
        omega
      · change b = ga at h1
        change b = gc at h2
        omega
      · change b = gb at h1
        change b = gc at h2
        omega
      · rcases hb with (h | h) | h
        · rcases h with h | h
          · exact h.elim
          · omega
        · omega
        · omega)
    clear hc1 hc2 hc3 hcb A2 A3 B1
    go_wp2_with fail
    go_loopw [37] (fun s wr => ∃ (k : Nat), k ≤ T.length ∧ s = .int .i64 k ∧ Hid (RS3 B W wd ga gb gc ma mo k wr)) (fun s _ => T.length - (intOf s).toNat)
    case atStart => exact ⟨0, Nat.zero_le _, rfl, D4⟩
    case round =>
      obtain ⟨k, hk, rfl, HD⟩ := hrel
      by_cases hlt : k < T.length
      · obtain ⟨Na, Nb, Nc, G, Ra, Rb, Rc, da, db, dc, hS, hpb, hpc, hla, hlb, hlc, hfl⟩ := HD.out
        obtain ⟨b, off, rfl, hc⟩ := H.out.args.at HB.out hS.bel hlt
        have hn := H.out.args.rows _ (atT_mem hlt)
        have hrg := H.out.rng _ (atT_mem hlt)
        have HS := Lib.hid hS
        have HPB := Lib.hid hpb
        have HPC := Lib.hid hpc
        have HLN := Lib.hid (And.intro hla (And.intro hlb (And.intro hlc hfl)))
        clear hS hpb hpc hla hlb hlc hfl D4 HD
        generalize atT T k = x at *
        obtain ⟨xa, xA, xc⟩ := x
        dsimp only at hc hn hrg
        have HRG := Lib.hid hrg
        have HRW := Lib.hid (hn.1.belowB HB.out HS.out.bel)
        have cf := few_calls xa xc xA wr HRW.out hn.2.1 hn.2.2
        clear hn hrg
        cases hf : fewB xA
        · rw [hf] at cf
          go_wp2_with fail
          refine cf.mono ?_
          rintro e w' ⟨rfl, rfl⟩
          have F := Lib.hid (show TrueRet5 W (.returned (.bool true)) wr from ⟨rfl, by rw [HB.out]; exact HS.out.bel⟩)
          clear HS HRW cf hc
          go_wp2_with fail
          go_ret
          exact F.out
        · rw [hf] at cf
          obtain ⟨hA, hAx⟩ := few_ok hf
          have cm := make_later wd xa xc xA wr HRW.out (by omega) (by omega) (fun x hx => by have := hAx x hx; omega)
          obtain ⟨rs, hrs⟩ : ∃ rs, relOf (wd : Int) (xA.map (·.2.1)) = rs := ⟨_, rfl⟩
          have RL : Hid (rs.length ≤ 60) := Lib.hid (by rw [← hrs]; have := rel_len (wd : Int) (xA.map (·.2.1)); rw [List.length_map] at this; omega)
          have RR : Hid (∀ x ∈ rs, InRange x) := Lib.hid (by
            rw [← hrs]
            refine rel_range (fun x hx => ?_)
            obtain ⟨y, hy, rfl⟩ := List.mem_map.1 hx
            exact HRG.out y hy)
          rw [hrs] at cm
          clear hf hAx hrs HRG HRW
          go_wp2_with fail
          refine cf.mono ?_
          rintro e w' ⟨rfl, rfl⟩
          clear cf
          go_wp2_with fail
          refine cm.mono ?_
          rintro e w4 ⟨q, rfl, hl, hb4⟩
          have S4 := Lib.hid (HS.out.below hb4)
          have X4 := Lib.hid (HS.out.row hl)
          have hfl : Ra.flatten.length ≤ 720 := by have := HLN.out.2.2.2; omega
          have hfb : Rb.flatten.length ≤ 720 := by rw [← HPB.out.length_eq]; exact hfl
          have hfc : Rc.flatten.length ≤ 720 := by rw [← HPC.out.length_eq]; exact hfl
          have ND := Lib.hid (sorted_nodup X4.out.seg.1)
          have SW := Lib.hid X4.out.seg.2.1
          have LA := Lib.hid (step_perm (wd := wd) (most := ma) (StS.nodup S4.out.ax) ND.out (StS.widths S4.out.ax) SW.out)
          have LB := Lib.hid (step_perm (wd := wd) (most := mo) (StS.nodup S4.out.ay) ND.out (StS.widths S4.out.ay) SW.out)
          have LC := Lib.hid (step_perm (wd := wd) (most := 0) (StS.nodup S4.out.az) ND.out (StS.widths S4.out.az) SW.out)
          have EB := minus_congr (rs := rs) HPB.out
          have EC := minus_congr (rs := rs) HPC.out
          have hnl : (minusR rs Ra.flatten).length ≤ rs.length := List.length_filter_le ..
          dsimp only at LA LB LC
          rw [EB] at LB
          rw [EC] at LC
          obtain ⟨new, hnew⟩ : ∃ new, minusR rs Ra.flatten = new := ⟨_, rfl⟩
          rw [hnew] at LA LB LC hnl EB EC
          have ea : newR wd Ra wd rs = new := by unfold newR; rw [if_pos rfl]; exact hnew
          have eb : newR wd Rb wd rs = new := by unfold newR; rw [if_pos rfl]; exact EB
          have ec : newR wd Rc wd rs = new := by unfold newR; rw [if_pos rfl]; exact EC
          have EEB := Lib.hid eb
          have EEC := Lib.hid ec
          have hnb : new.length ≤ 60 := by have := RL.out; omega
          have hT : Ra.flatten.length + rs.length ≤ 1000 := by have := RL.out; omega
          have ca := stStep_calls S4.out.ax (s := (q, rs)) X4.out (by omega) (by have := HLN.out.1; show Ra.length ≤ 900; omega) hT RR.out ND.out
          dsimp only at ca
          rw [ea] at ca
          have t2 : ((new.length : Int) != (new.length : Int)) = false := by simp
          clear hl hb4 cm HS ea eb ec EB EC hnew hT
          go_wp2_with fail
          refine ca.mono ?_
          intro e w5 h5
          obtain ⟨rfl, Na5, G5, h5, hq5⟩ := t3_x S4.out h5
          have S5 := Lib.hid h5
          have X5 := Lib.hid (hq5 _ _ X4.out)
          have cb := stStep_calls S5.out.ay (s := (q, rs)) X5.out (by omega) (by have := HLN.out.2.1; show Rb.length ≤ 900; omega) (by have := RL.out; show Rb.flatten.length + rs.length ≤ 1000; omega) RR.out ND.out
          dsimp only at cb
          rw [EEB.out] at cb
          clear h5 hq5 ca S4 X4
          go_wp2_with fail
          refine cb.mono ?_
          intro e w6 h6
          obtain ⟨rfl, Nb6, G6, h6, hq6⟩ := t3_y S5.out h6
          have S6 := Lib.hid h6
          have X6 := Lib.hid (hq6 _ _ X5.out)
          have cc := stStep_calls S6.out.az (s := (q, rs)) X6.out (by omega) (by have := HLN.out.2.2.1; show Rc.length ≤ 900; omega) (by have := RL.out; show Rc.flatten.length + rs.length ≤ 1000; omega) RR.out ND.out
          dsimp only at cc
          rw [EEC.out] at cc
          clear h6 hq6 cb S5 X5
          go_wp2_with fail
          refine cc.mono ?_
          intro e w7 h7
          obtain ⟨rfl, Nc7, G7, h7, hq7⟩ := t3_z S6.out h7
          have S7 := Lib.hid h7
          clear h7 hq7 cc S6 X6
          -- lengths of what they hold
          obtain ⟨la1, la2⟩ := LA.out
          obtain ⟨lb1, lb2⟩ := LB.out
          obtain ⟨lc1, lc2⟩ := LC.out
          have pb : (stepRuns wd ma Ra new).flatten.Perm (stepRuns wd mo Rb new).flatten := la1.trans ((HPB.out.append_right _).trans lb1.symm)
          have pc : (stepRuns wd ma Ra new).flatten.Perm (stepRuns wd 0 Rc new).flatten := la1.trans ((HPC.out.append_right _).trans lc1.symm)
          have fa : (stepRuns wd ma Ra new).flatten.length ≤ Ra.flatten.length + 60 := by rw [la1.length_eq, List.length_append]; omega
          clear la1 lb1 lc1 LA LB LC
          generalize stepRuns wd ma Ra new = Ra' at *
          generalize stepRuns wd mo Rb new = Rb' at *
          generalize stepRuns wd 0 Rc new = Rc' at *
          have cw := compact_perm (StS.widths S7.out.az) (StS.nodup S7.out.az)
          dsimp only at cw
          have lal : Ra'.length ≤ k + 1 := by have := HLN.out.1; omega
          have lbl : Rb'.length ≤ k + 1 := by have := HLN.out.2.1; omega
          have lcl : Rc'.length ≤ 2 := by have := HLN.out.2.2.1; omega
          have fal : Ra'.flatten.length ≤ 60 * (k + 1) := by have := HLN.out.2.2.2; omega
          have fcl : Rc'.flatten.length ≤ 60 * (k + 1) := by rw [← pc.length_eq]; exact fal
          have ck := stCompact_calls S7.out.az (by omega) (by show Rc'.length ≤ 1000; omega) (by show Rc'.flatten.length ≤ 1000; omega)
          dsimp only at ck
          have CW := Lib.hid cw
          have PB := Lib.hid pb
          have PC := Lib.hid (pc.trans cw.1.symm)
          have LL := Lib.hid (And.intro lal (And.intro lbl (And.intro cw.2 fal)))
          generalize compactR wd Rc' = Rd at *
          clear cw pb pc la2 lb2 lc2 fa fcl lcl lal lbl fal hfl hfb hfc hnl HLN HPB HPC
          go_wp2_with fail
          refine ck.mono ?_
          intro e w8 h8
          obtain ⟨rfl, Nc8, G8, h8, hq8⟩ := t3_z S7.out h8
          have S8 := Lib.hid h8
          clear h8 hq8 ck S7 CW
          have hra : Ra'.length ≤ 1000 := by have := LL.out.1; omega
          have hrb : Rb'.length ≤ 1000 := by have := LL.out.2.1; omega
          have hrd : Rd.length ≤ 1 := LL.out.2.2.1
          have hfa : Ra'.flatten.length ≤ 1000 := by have := LL.out.2.2.2; omega
          have hfb : Rb'.flatten.length ≤ 1000 := by rw [← PB.out.length_eq]; exact hfa
          have hfd : Rd.flatten.length ≤ 1000 := by rw [← PC.out.length_eq]; exact hfa
          have NX : Hid (∀ w9, Below w8.heap.size w8 w9 → RS3 B W wd ga gb gc ma mo (k + 1) w9) := Lib.hid (fun w9 hb => ⟨Na5, Nb6, Nc8, G8, Ra', Rb', Rd, new, new, new, S8.out.below hb, PB.out, PC.out, LL.out.1, LL.out.2.1, LL.out.2.2.1, LL.out.2.2.2⟩)
          have FB := Lib.hid (rel_congr (wd := wd) PB.out)
          have FC := Lib.hid (rel_congr (wd := wd) PC.out)
          have HFA := Lib.hid hfa
          have RA : Hid ((relOf (wd : Int) Ra'.flatten).length ≤ 1000000) := Lib.hid (by have := rel_len (wd : Int) Ra'.flatten; omega)
          have t3 : ((Ra'.flatten.length : Int) != (Ra'.flatten.length : Int)) = false := by simp
          have t4 : decide ((1 : Int) < (Rd.length : Int)) = false := decide_eq_false (by omega)
          have C0 := Lib.hid (Below.refl w8.heap.size w8)
          have cfu := stFull_calls (StS.below S8.out.ax C0.out) (by omega) hra hfa
          dsimp only at cfu
          go_wp2_with fail
          refine cfu.mono ?_
          rintro e v1 ⟨qa, rfl, hq, hb⟩
          have Qqa := Lib.hid hq
          have C1 := Lib.hid (C0.out.trans (hb.mono C0.out.size))
          have HB1 := Lib.hid hb
          clear hq hb cfu
          have cfu := stFull_calls (StS.below S8.out.ay C1.out) (by omega) hrb hfb
          dsimp only at cfu
          rw [FB.out] at cfu
          go_wp2_with fail
          refine cfu.mono ?_
          rintro e v2 ⟨qb, rfl, hq, hb⟩
          have Qqb := Lib.hid hq
          have C2 := Lib.hid (C1.out.trans (hb.mono C1.out.size))
          have HB2 := Lib.hid hb
          clear hq hb cfu
          have cm := same_calls (Qqa.out.below HB2.out).seg Qqb.out.seg RA.out RA.out (by omega) (by omega)
          rw [decide_eq_true rfl] at cm
          go_wp2_with fail
          refine cm.mono ?_
          rintro e v3 ⟨rfl, n3, rfl⟩
          have C3 := Lib.hid (C2.out.trans ((below_drewN (Below.refl _ v2) n3).mono C2.out.size))
          clear cm
          generalize v2.drewN n3 = v3 at *
          have cfu := stFull_calls (StS.below S8.out.ax C3.out) (by omega) hra hfa
          dsimp only at cfu
          go_wp2_with fail
          refine cfu.mono ?_
          rintro e v4 ⟨qc, rfl, hq, hb⟩
          have Qqc := Lib.hid hq
          have C4 := Lib.hid (C3.out.trans (hb.mono C3.out.size))
          have HB4 := Lib.hid hb
          clear hq hb cfu
          have cfu := stFull_calls (StS.below S8.out.az C4.out) (by omega) (Nat.le_trans hrd (by decide)) hfd
          dsimp only at cfu
          rw [FC.out] at cfu
          go_wp2_with fail
          refine cfu.mono ?_
          rintro e v5 ⟨qd, rfl, hq, hb⟩
          have Qqd := Lib.hid hq
          have C5 := Lib.hid (C4.out.trans (hb.mono C4.out.size))
          have HB5 := Lib.hid hb
          clear hq hb cfu
          have cm := same_calls (Qqc.out.below HB5.out).seg Qqd.out.seg RA.out RA.out (by omega) (by omega)
          rw [decide_eq_true rfl] at cm
          go_wp2_with fail
          refine cm.mono ?_
          rintro e v6 ⟨rfl, n6, rfl⟩
          have C6 := Lib.hid (C5.out.trans ((below_drewN (Below.refl _ v5) n6).mono C5.out.size))
          clear cm
          generalize v5.drewN n6 = v6 at *
          have cd := stDelta_calls (StS.below S8.out.ax C6.out)
          dsimp only at cd
          go_wp2_with fail
          refine cd.mono ?_
          rintro e w' ⟨qe, rfl, hq, rfl⟩
          have Qqe := Lib.hid hq
          clear hq cd
          have cd := stDelta_calls (StS.below S8.out.ay C6.out)
          dsimp only at cd
          go_wp2_with fail
          refine cd.mono ?_
          rintro e w' ⟨qf, rfl, hq, rfl⟩
          have Qqf := Lib.hid hq
          clear hq cd
          have cm := same_calls Qqe.out.seg Qqf.out.seg (by show new.length ≤ 1000000; omega) (by show new.length ≤ 1000000; omega) (by omega) (by omega)
          rw [decide_eq_true rfl] at cm
          go_wp2_with fail
          refine cm.mono ?_
          rintro e v7 ⟨rfl, n7, rfl⟩
          have C7 := Lib.hid (C6.out.trans ((below_drewN (Below.refl _ v6) n7).mono C6.out.size))
          clear cm
          generalize v6.drewN n7 = v7 at *
          have cd := stDelta_calls (StS.below S8.out.ax C7.out)
          dsimp only at cd
          go_wp2_with fail
          refine cd.mono ?_
          rintro e w' ⟨qg, rfl, hq, rfl⟩
          have Qqg := Lib.hid hq
          clear hq cd
          have cd := stDelta_calls (StS.below S8.out.az C7.out)
          dsimp only at cd
          go_wp2_with fail
          refine cd.mono ?_
          rintro e w' ⟨qh, rfl, hq, rfl⟩
          have Qqh := Lib.hid hq
          clear hq cd
          have cm := same_calls Qqg.out.seg Qqh.out.seg (by show new.length ≤ 1000000; omega) (by show new.length ≤ 1000000; omega) (by omega) (by omega)
          rw [decide_eq_true rfl] at cm
          go_wp2_with fail
          refine cm.mono ?_
          rintro e v8 ⟨rfl, n8, rfl⟩
          have C8 := Lib.hid (C7.out.trans ((below_drewN (Below.refl _ v7) n8).mono C7.out.size))
          clear cm
          generalize v7.drewN n8 = v8 at *
          have cl := stlen_is (n := (Ra'.flatten.length : Int)) (StS.below S8.out.ax C8.out) hra hfa rfl
          go_wp2_with fail
          refine cl.mono ?_
          rintro e w' ⟨rfl, rfl⟩
          clear cl
          have cl := stlen_is (n := (Ra'.flatten.length : Int)) (StS.below S8.out.ay C8.out) hrb hfb (by rw [PB.out.length_eq])
          go_wp2_with fail
          refine cl.mono ?_
          rintro e w' ⟨rfl, rfl⟩
          clear cl
          have cr := stRuns_calls (StS.below S8.out.az C8.out)
          dsimp only at cr
          go_wp2_with fail
          refine cr.mono ?_
          rintro e w' ⟨rfl, rfl⟩
          have NXT := Lib.hid (NX.out _ C8.out)
          clear cr
          go_wp2_with fail
          go_roundw
          case rel => exact ⟨k + 1, by omega, by go_num, NXT⟩
          case measure => simp [intOf]; omega
      · obtain rfl : k = T.length := by omega
        have tl : decide ((T.length : Int) < (T.length : Int)) = false := decide_eq_false (by omega)
        have F := Lib.hid (show TrueRet5 W (.returned (.bool true)) wr from by
          obtain ⟨Na, Nb, Nc, G, Ra, Rb, Rc, da, db, dc, hS, _⟩ := HD.out
          exact ⟨rfl, by rw [HB.out]; exact hS.bel⟩)
        clear D4 HD
        go_wp2_with fail
        go_ret
        exact F.out
end Go.Proofs.Ytepkmhcchmladaa

