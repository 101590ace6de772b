/- JoinSemis, walked. -/
import Derived.Test.YtcecndjkfdaaaaaJn19
namespace Go.Proofs.Ytcecndjkfdaaaaa
open Go.RowKit Go.Shelf
set_option linter.unusedVariables false
set_option linter.unusedSimpArgs false

theorem withS_len (acc : List Int) (x : Int) : (withS acc x).length ≤ acc.length + 1 := by unfold withS; split <;> simp
theorem withL_len (ps : List (Int × Int)) : ∀ k, (withL (ps.take k)).length ≤ k
  | 0 => by simp [withL]
  | k + 1 => by
    by_cases h : k < ps.length
    · rw [withL_take h]; have := withS_len (withL (ps.take k)) (atP ps k).1; have := withL_len ps k; omega
    · have e : ps.take (k + 1) = ps.take k := by rw [List.take_of_length_le (by omega), List.take_of_length_le (by omega)]
      rw [e]; have := withL_len ps k; omega
set_option maxRecDepth 100000 in
set_option maxHeartbeats 8000000 in
theorem joinSemis_walk {w : World} {a b c d : Option Addr} {A D : List RV} {KA KB : List Int} (wi wj : Int) (ca cb cc cd : Nat) (hS : SideArgs w a b c d A D KA KB) :
    Calls Try.prog 4 #[sidesV wi wj a b c d A D KA KB ca cb cc cd] w (TrueRet5 w) := by
  obtain ⟨i1, hi, hz0, hz1, hz2⟩ := info_parts info3
  have I' := Lib.hid hi
  have Z0' := Lib.hid hz0
  have Z1' := Lib.hid hz1
  have Z2' := Lib.hid hz2
  clear hi hz0 hz1 hz2
  obtain ⟨B, hB⟩ : ∃ B, w.heap.size = B := ⟨_, rfl⟩
  have HB := Lib.hid hB
  have HS := Lib.hid hS
  have J0 := Lib.hid (JS.new hB wi wj ca cb cc cd hS)
  unfold sidesV
  go_enter Try.func4, Try.ntmps4
  go_wp2_with fail
  clear hB hS
  generalize World.alloc w _ = W0 at *
  refine (head8_calls W0).mono ?_
  rintro e W1 ⟨rfl, hb1⟩
  have J1 := Lib.hid (J0.out.next hb1)
  clear hb1 J0
  obtain ⟨c0, c1, c2, c3, c4, c5, _⟩ := J1.out.box
  go_wp2_with fail
  have cf := sidesFew_calls (KA := KA) (KB := KB) (c := c) (d := d) wi wj ca cb cc cd HS.out.hA HS.out.hD HB.out J1.out.bel (Nat.le_of_lt J1.out.box.lt)
  unfold sidesV at cf
  clear c0 c1 c2 c3 c4 c5
  cases hf : sidesFew A D KA KB
  · rw [hf] at cf
    refine cf.mono ?_
    rintro e W2 ⟨rfl, hb2⟩
    have J2 := Lib.hid (J1.out.next hb2)
    clear hb2 J1 cf
    go_wp2_with fail
    go_ret
    exact ⟨rfl, by rw [HB.out]; exact J2.out.bel⟩
  · rw [hf] at cf
    refine cf.mono ?_
    rintro e W2 ⟨rfl, hb2⟩
    have J2 := Lib.hid (J1.out.next hb2)
    obtain ⟨fA, fD, hka, hkb⟩ := sidesFew_true hf
    clear hb2 J1 cf hf
    obtain ⟨c0, c1, c2, c3, c4, c5, _⟩ := J2.out.box
    obtain ⟨n1, hn1, e1⟩ := width5 wi
    obtain ⟨n2, hn2, e2⟩ := width5 wj
    go_wp2_with fail
    have cm := sidesMake_calls (KA := KA) (KB := KB) (c := c) (d := d) wi wj n1 n2 hn1 hn2 e1 e2 ca cb cc cd HS.out.hA HS.out.hD HB.out J2.out.bel (Nat.le_of_lt J2.out.box.lt) (few_ok fA) (few_ok fD)
    unfold sidesV at cm
    clear c0 c1 c2 c3 c4 c5 e1 e2
    generalize relOf (n1 : Int) (A.map (·.2.1)) = xs at *
    generalize relOf (n2 : Int) (D.map (·.2.1)) = ys at *
    refine cm.mono ?_
    rintro e W3 ⟨p, o, rfl, hp3, ho3, hb3⟩
    have J3 := Lib.hid (J2.out.next hb3)
    have P3 := Lib.hid hp3
    have O3 := Lib.hid ho3
    have hxl : xs.length ≤ 60 := hp3.2
    have hyl : ys.length ≤ 60 := ho3.2
    have PL : Hid ((pairsOf (xs.map fun r => keyL r KA) (ys.map fun r => keyL r KB)).length ≤ 3600) := Lib.hid (pairs_le (by simpa using hxl) (by simpa using hyl))
    have KL : Hid ((xs.map fun r => keyL r KA).length = xs.length) := Lib.hid (by simp)
    clear hp3 ho3 hb3 J2 cm
    obtain ⟨C, hC⟩ : ∃ C, W3.heap.size = C := ⟨_, rfl⟩
    have HC := Lib.hid hC
    have lit : Below C W3 (W3.alloc (.cells #[] 3)) := (Below.refl _ _).alloc (Nat.le_of_eq hC.symm) _
    have OW : Hid ((W3.alloc (.cells #[] 3)).ownsRow C 3 1 (.slice (some ⟨C, 0, none⟩) 0 0) 0 []) := Lib.hid (by have := World.ownsRow_lit (base := C) (e := 3) (size := 1) W3 #[] 0 (Nat.le_of_eq hC.symm) (Nat.zero_le _) rfl; rw [hC] at this; exact this)
    have L4 := Lib.hid lit
    have S4 : Hid ((W3.alloc (.cells #[] 3)).heap.size = C + 1) := Lib.hid (by simp [hC])
    have PN := fun (X : World) (h : Below C W3 X) => P3.out.belowB HC.out h
    have ON := fun (X : World) (h : Below C W3 X) => O3.out.belowB HC.out h
    have JN : ∀ X, Below C W3 X → JS B w X wi wj a b c d A D KA KB ca cb cc cd := fun X h => J3.out.next (by rw [HC.out]; exact h)
    have PN' := Lib.hid PN
    have ON' := Lib.hid ON
    have JN' := Lib.hid JN
    clear PN ON JN P3 O3 J3
    obtain ⟨c0, c1, c2, c3, c4, c5, _⟩ := (JN'.out _ lit).box
    have cw := pairsF_calls (PN'.out _ lit).1 (ON'.out _ lit).1 c d cc cd KA KB (JN'.out _ lit).ka (JN'.out _ lit).kb (by omega) (by omega) (by omega) (by omega) (by omega) (by omega)
    go_wp2_with fail
    clear hC lit c0 c1 c2 c3 c4 c5
    generalize World.alloc W3 _ = W4 at *
    refine cw.mono ?_
    rintro e W5 ⟨qa, qc, rfl, hq5, hqf, hb5⟩
    have BL5 : Hid (Below C W3 W5) := Lib.hid (L4.out.trans (hb5.mono (by rw [S4.out]; omega)))
    have OW5 := Lib.hid (owns_keeps (N := fun _ => False) OW.out (Keeps.of_below hb5) (fun _ _ h => h))
    have Q5 : Hid (PRow W5 qa (pairsOf (xs.map fun r => keyL r KA) (ys.map fun r => keyL r KB)) ∧ ∀ q, qa = some q → (Value.slice (some ⟨C, 0, none⟩) 0 0).ownBlock ≠ some q.block ∧ q.block < W5.heap.size) := Lib.hid ⟨hq5, fun q hq => ⟨fun e => by have h1 := (hqf q hq).1; rw [S4.out] at h1; simp [Value.ownBlock] at e; omega, (hqf q hq).2⟩⟩
    clear cw hq5 hqf hb5 OW L4
    have WP := Lib.hid (withL_pairs (xs.map fun r => keyL r KA) (ys.map fun r => keyL r KB) (xs.map fun r => keyL r KA).length)
    have SM := Lib.hid (semi_sum (xs.map fun r => keyL r KA) (ys.map fun r => keyL r KB) (xs.map fun r => keyL r KA).length)
    have AT := Lib.hid (fun (has : Bool) (k : Nat) => semi_at (kas := xs.map fun r => keyL r KA) (kbs := ys.map fun r => keyL r KB) (has := has) (k := k))
    have NT := Lib.hid (fun (has : Bool) (k : Nat) => semi_not (kas := xs.map fun r => keyL r KA) (kbs := ys.map fun r => keyL r KB) (has := has) (k := k))
    have CY := Lib.hid (fun (X : World) (h : Below C W3 X) => semi_join (PN'.out X h).1 (ON'.out X h).1 c d cc cd KA KB (JN'.out X h).ka (JN'.out X h).kb (by omega) (by omega) (by omega) (by omega) (by omega) (by omega))
    have CN := Lib.hid (fun (X : World) (h : Below C W3 X) => segLen_calls (PN'.out X h).1)
    generalize (xs.map fun r => keyL r KA) = kas at *
    generalize (ys.map fun r => keyL r KB) = kbs at *
    change Hid (withL (pairsOf kas kbs) = semiOf kas kbs true) at WP
    change Hid ((semiOf kas kbs true).length + (semiOf kas kbs false).length = kas.length) at SM
    generalize pairsOf kas kbs = ps at *
    go_wp2_with fail
    go_loopw [32, 5] (fun s v wr => ∃ (k : Nat) (u : Value), k ≤ ps.length ∧ s = .int .i64 k ∧ u = v ∧ Hid (wr.ownsRow C 3 1 u (withL (ps.take k)).length ((withL (ps.take k)).map (Value.int .i64))) ∧ Hid (Below C W3 wr) ∧ Hid (PRow wr qa ps ∧ ∀ q, qa = some q → u.ownBlock ≠ some q.block ∧ q.block < wr.heap.size)) (fun s _ _ => ps.length - (intOf s).toNat)
    case atStart => exact ⟨0, _, Nat.zero_le _, rfl, rfl, Lib.hid (by simpa [withL] using OW5.out), BL5, Q5⟩
    case round =>
      obtain ⟨k, u, hk, rfl, rfl, HO, HL, HQ⟩ := hrel
      obtain ⟨X, rfl⟩ : ∃ x, x = wr := ⟨wr, rfl⟩
      have hCX : C ≤ X.heap.size := by have := HL.out.size; rw [HC.out] at this; exact this
      by_cases hlt : k < ps.length
      · obtain ⟨qb, qo, hqa, hqb, hp1, hp2⟩ := HQ.out.1.at hlt
        have hqn := HQ.out.2 _ hqa
        have HQN := Lib.hid hqn
        subst hqa
        have SS := Lib.hid (withL_take hlt)
        have hwl := withL_len ps k
        have hpl := PL.out
        generalize (atP ps k).1 = px at *
        generalize (atP ps k).2 = py at *
        obtain ⟨acc, hacc⟩ : ∃ acc, withL (ps.take k) = acc := ⟨_, rfl⟩
        rw [hacc] at HO SS hwl
        clear hacc hqn
        obtain ⟨ua, uc, hu⟩ : ∃ ua uc, u = .slice ua acc.length uc := by
          obtain ⟨a9, c9, e9, _⟩ := row_of_owns HO.out
          exact ⟨a9, c9, e9⟩
        subst hu
        by_cases h0 : acc = []
        · have SW : Hid (withS acc px = acc ++ [px]) := Lib.hid (by rw [h0]; simp [withS])
          have tn0 : ((acc.length : Int) == 0) = true := by rw [h0]; rfl
          clear h0
          have VO := Lib.hid (fun (q : Nat) => owns_keeps (N := fun _ => False) HO.out (Keeps.of_below (below_drewN ((Below.refl _ _).alloc (Nat.le_refl _) (.cells #[.int .i64 px, .int .i64 py] 36)) q)) (fun _ _ h => h))
          have VB := Lib.hid (fun (q : Nat) => below_drewN (HL.out.alloc hCX (.cells #[.int .i64 px, .int .i64 py] 36)) q)
          have VQ := Lib.hid (fun (q : Nat) => HQ.out.1.below (below_drewN ((Below.refl _ _).alloc (Nat.le_refl _) (.cells #[.int .i64 px, .int .i64 py] 36)) q))
          have Vc : ∀ q, ((X.alloc (.cells #[.int .i64 px, .int .i64 py] 36)).drewN q).cell? ⟨X.heap.size, 0, none⟩ = some (.int .i64 px) := fun q => by
            rw [(below_drewN (Below.refl (X.alloc (.cells #[.int .i64 px, .int .i64 py] 36)).heap.size (X.alloc (.cells #[.int .i64 px, .int .i64 py] 36))) q).cell (p := ⟨X.heap.size, 0, none⟩) (by simp)]; go_simp
          have Vs := Lib.hid (fun (q : Nat) => (below_drewN (Below.refl (X.alloc (.cells #[.int .i64 px, .int .i64 py] 36)).heap.size (X.alloc (.cells #[.int .i64 px, .int .i64 py] 36))) q).size)
          have Vz : Hid ((X.alloc (.cells #[.int .i64 px, .int .i64 py] 36)).heap.size = X.heap.size + 1) := Lib.hid (by simp)
          go_wp2_with fail
          go_quiet (fail)
          rename_i qd
          have VO1 := Lib.hid (VO.out nq)
          have VB1 := Lib.hid (VB.out nq)
          have VQ1 := Lib.hid (VQ.out nq)
          have Vc1 := Vc nq
          have Vs1 : Hid (X.heap.size + 1 ≤ ((X.alloc (.cells #[.int .i64 px, .int .i64 py] 36)).drewN nq).heap.size) := Lib.hid (by have := Vs.out nq; rw [Vz.out] at this; exact this)
          clear VO VB VQ Vc Vs Vz hp1 hp2
          generalize World.drewN (World.alloc X _) nq = V at *
          have hCV : C ≤ V.heap.size := by have := Vs1.out; omega
          go_wp2_with (first | (at_builtin; refine wpList_append_own_at _ rfl _ _ 23 rfl C 3 i1 (.int .i64 0) 1 8 Try.underlying23 I'.out Z0'.out Z1'.out Z2'.out rfl (by decide) _ _ _ rfl (VO1.out.alloc _) ⟨V.heap.size, 0, none⟩ 1 1 [.int .i64 px] rfl rfl ?da1 ?da2 ?da3 ?da4 ?da5 ?_))
          case da1 => exact cell_one_new V _ _
          case da2 => intro u hu; simp at hu; subst hu; rfl
          case da3 => unfold maxLen; omega
          case da4 => omega
          case da5 => simp; omega
          intro v1 w7 hown hgrow _ hat
          have R := app_step hCV VB1.out VO1.out hown hgrow
          have O7 := Lib.hid R.1
          have L7 := Lib.hid R.2
          rw [← SW.out, ← SS.out] at O7
          have KJ := ((Keeps.refl _ V).alloc (.cells #[.int .i64 px] 3)).trans (Keeps.of_grown (N := fun b => Value.ownBlock _ = some b) hgrow (fun b hb => hb))
          have Q7 : Hid (PRow w7 (some ⟨qb, qo, none⟩) ps ∧ ∀ q, (some ⟨qb, qo, none⟩ : Option Addr) = some q → v1.ownBlock ≠ some q.block ∧ q.block < w7.heap.size) := Lib.hid ⟨VQ1.out.keeps KJ (fun q hq e => (HQ.out.2 q hq).1 e), fun q hq => ⟨fun e => by
            have h2 := HQ.out.2 q hq
            have h3 := Vs1.out
            rcases hat with e1 | e1
            · rw [e1] at e; exact h2.1 e
            · rw [e1] at e; simp at e; omega, by have h2 := (HQ.out.2 q hq).2; have h3 := Vs1.out; have h4 := KJ.size; omega⟩⟩
          clear hown hgrow hat R KJ Vc1
          go_wp2_with fail
          go_roundw
          case rel => exact ⟨k + 1, _, by omega, by go_num, rfl, O7, L7, Q7⟩
          case measure => simp [intOf]; omega
        · obtain ⟨n9, hn9⟩ : ∃ n, acc.length = n + 1 := ⟨acc.length - 1, by have := List.length_pos_iff.2 h0; omega⟩
          obtain ⟨z, hz⟩ : ∃ z, acc[n9]? = some z := ⟨acc[n9]'(by omega), List.getElem?_eq_getElem (by omega)⟩
          have hgl : acc.getLast? = some z := by rw [List.getLast?_eq_getElem?, hn9]; simpa using hz
          have hshape : ∃ g, ua = some ⟨g, 0, none⟩ ∧ g < X.heap.size ∧ X.cell? ⟨g, n9, none⟩ = some (.int .i64 z) := by
            rcases HO.out.2 with ⟨e, h9⟩ | ⟨g, cap, cur, e, hgb, hgh, _⟩
            · omega
            · cases e
              refine ⟨g, rfl, (Array.getElem?_eq_some_iff.1 hgh).1, ?_⟩
              rw [World.ownsRow.cellAt HO.out n9 (by omega), List.getElem?_map, hz]; rfl
          obtain ⟨g, rfl, hgX, hgc⟩ := hshape
          have hgne : ¬ g = X.heap.size := by omega
          have hgne2 : ¬ X.heap.size = g := by omega
          have tn0 : ((n9 : Int) + 1 == 0) = false := by rw [beq_eq_false_iff_ne]; omega
          have wn9 : IntKind.i64.wrap (n9 : Int) = (n9 : Int) := by rw [IntKind.wrap_i64]; omega
          rw [hn9] at HO HQ hwl ⊢
          have HN9 := Lib.hid hn9
          by_cases hzp : z = px
          · have SW : Hid (withS acc px = acc) := Lib.hid (by simp [withS, hgl, hzp])
            have tz : (z != px) = false := by simp [hzp]
            have O7 : Hid (∀ q, ((X.alloc (.cells #[.int .i64 px, .int .i64 py] 36)).drewN q).ownsRow C 3 1 (.slice (some ⟨g, 0, none⟩) (n9 + 1) uc) (withL (ps.take (k + 1))).length ((withL (ps.take (k + 1))).map (Value.int .i64))) := Lib.hid (fun q => by rw [SS.out, SW.out, HN9.out]; exact owns_keeps (N := fun _ => False) HO.out (Keeps.of_below (below_drewN ((Below.refl _ _).alloc (Nat.le_refl _) _) q)) (fun _ _ h => h))
            have L7 := Lib.hid (fun (q : Nat) => below_drewN (HL.out.alloc hCX (.cells #[.int .i64 px, .int .i64 py] 36)) q)
            have Q7 : Hid (∀ q, PRow ((X.alloc (.cells #[.int .i64 px, .int .i64 py] 36)).drewN q) (some ⟨qb, qo, none⟩) ps ∧ ∀ q', (some ⟨qb, qo, none⟩ : Option Addr) = some q' → (Value.slice (some ⟨g, 0, none⟩) (n9 + 1) uc).ownBlock ≠ some q'.block ∧ q'.block < ((X.alloc (.cells #[.int .i64 px, .int .i64 py] 36)).drewN q).heap.size) := Lib.hid (fun q => by
              have hb9 := below_drewN ((Below.refl X.heap.size X).alloc (Nat.le_refl _) (.cells #[.int .i64 px, .int .i64 py] 36)) q
              exact ⟨HQ.out.1.below hb9, fun q' hq' => ⟨(HQ.out.2 q' hq').1, Nat.lt_of_lt_of_le (HQ.out.2 q' hq').2 hb9.size⟩⟩)
            clear hgl hz hn9 h0
            go_wp2_with fail
            go_quiet (fail)
            rename_i qd
            go_wp2_with fail
            go_roundw
            case rel => exact ⟨k + 1, _, by omega, by go_num, rfl, Lib.hid (O7.out _), Lib.hid (L7.out _), Lib.hid (Q7.out _)⟩
            case measure => simp [intOf]; omega
          · have SW : Hid (withS acc px = acc ++ [px]) := Lib.hid (by unfold withS; rw [if_neg (by rw [hgl]; simpa using hzp)])
            have tz : (z != px) = true := by simpa using hzp
            rw [← hn9] at HO
            rw [HN9.out] at HO
            clear hgl hz hn9 h0 hzp
            have VO := Lib.hid (fun (q : Nat) => owns_keeps (N := fun _ => False) HO.out (Keeps.of_below (below_drewN ((Below.refl _ _).alloc (Nat.le_refl _) (.cells #[.int .i64 px, .int .i64 py] 36)) q)) (fun _ _ h => h))
            have VB := Lib.hid (fun (q : Nat) => below_drewN (HL.out.alloc hCX (.cells #[.int .i64 px, .int .i64 py] 36)) q)
            have VQ := Lib.hid (fun (q : Nat) => HQ.out.1.below (below_drewN ((Below.refl _ _).alloc (Nat.le_refl _) (.cells #[.int .i64 px, .int .i64 py] 36)) q))
            have Vc : ∀ q, ((X.alloc (.cells #[.int .i64 px, .int .i64 py] 36)).drewN q).cell? ⟨X.heap.size, 0, none⟩ = some (.int .i64 px) := fun q => by
              rw [(below_drewN (Below.refl (X.alloc (.cells #[.int .i64 px, .int .i64 py] 36)).heap.size (X.alloc (.cells #[.int .i64 px, .int .i64 py] 36))) q).cell (p := ⟨X.heap.size, 0, none⟩) (by simp)]; go_simp
            have Vs := Lib.hid (fun (q : Nat) => (below_drewN (Below.refl (X.alloc (.cells #[.int .i64 px, .int .i64 py] 36)).heap.size (X.alloc (.cells #[.int .i64 px, .int .i64 py] 36))) q).size)
            have Vz : Hid ((X.alloc (.cells #[.int .i64 px, .int .i64 py] 36)).heap.size = X.heap.size + 1) := Lib.hid (by simp)
            go_wp2_with fail
            go_quiet (fail)
            rename_i qd
            have VO1 := Lib.hid (VO.out nq)
            have VB1 := Lib.hid (VB.out nq)
            have VQ1 := Lib.hid (VQ.out nq)
            have Vc1 := Vc nq
            have Vs1 : Hid (X.heap.size + 1 ≤ ((X.alloc (.cells #[.int .i64 px, .int .i64 py] 36)).drewN nq).heap.size) := Lib.hid (by have := Vs.out nq; rw [Vz.out] at this; exact this)
            clear VO VB VQ Vc Vs Vz hp1 hp2
            generalize World.drewN (World.alloc X _) nq = V at *
            have hCV : C ≤ V.heap.size := by have := Vs1.out; omega
            go_wp2_with (first | (at_builtin; refine wpList_append_own_at _ rfl _ _ 23 rfl C 3 i1 (.int .i64 0) 1 8 Try.underlying23 I'.out Z0'.out Z1'.out Z2'.out rfl (by decide) _ _ _ rfl (VO1.out.alloc _) ⟨V.heap.size, 0, none⟩ 1 1 [.int .i64 px] rfl rfl ?db1 ?db2 ?db3 ?db4 ?db5 ?_))
            case db1 => exact cell_one_new V _ _
            case db2 => intro u hu; simp at hu; subst hu; rfl
            case db3 => unfold maxLen; omega
            case db4 => omega
            case db5 => simp; omega
            intro v1 w7 hown hgrow _ hat
            have R := app_step (xs := acc) (v := .slice (some ⟨g, 0, none⟩) (n9 + 1) uc) hCV VB1.out (by rw [HN9.out]; exact VO1.out) (by rw [HN9.out]; exact hown) hgrow
            have O7 := Lib.hid R.1
            have L7 := Lib.hid R.2
            rw [← SW.out, ← SS.out] at O7
            have KJ := ((Keeps.refl _ V).alloc (.cells #[.int .i64 px] 3)).trans (Keeps.of_grown (N := fun b => Value.ownBlock _ = some b) hgrow (fun b hb => hb))
            have Q7 : Hid (PRow w7 (some ⟨qb, qo, none⟩) ps ∧ ∀ q, (some ⟨qb, qo, none⟩ : Option Addr) = some q → v1.ownBlock ≠ some q.block ∧ q.block < w7.heap.size) := Lib.hid ⟨VQ1.out.keeps KJ (fun q hq e => (HQ.out.2 q hq).1 e), fun q hq => ⟨fun e => by
              have h2 := HQ.out.2 q hq
              have h3 := Vs1.out
              rcases hat with e1 | e1
              · rw [e1] at e; exact h2.1 e
              · rw [e1] at e; simp at e; omega, by have h2 := (HQ.out.2 q hq).2; have h3 := Vs1.out; have h4 := KJ.size; omega⟩⟩
            clear hown hgrow hat R KJ Vc1
            go_wp2_with fail
            go_roundw
            case rel => exact ⟨k + 1, _, by omega, by go_num, rfl, O7, L7, Q7⟩
            case measure => simp [intOf]; omega
      · have tl : decide (k < ps.length) = false := decide_eq_false hlt
        have HT : Hid (X.ownsRow C 3 1 u (semiOf kas kbs true).length ((semiOf kas kbs true).map (Value.int .i64))) := Lib.hid (by have := HO.out; rw [List.take_of_length_le (by omega), WP.out] at this; exact this)
        obtain ⟨ua, uc, rfl, hur⟩ := row_of_owns HT.out
        have UR := Lib.hid hur
        obtain ⟨c0, c1, c2, c3, c4, c5, _⟩ := (JN'.out _ HL.out).box
        clear hur HT HO HQ WP
        go_wp2_with fail
        refine (CY.out X HL.out true).mono ?_
        rintro e X1 ⟨ya, yc, rfl, hy1, hb1⟩
        have HL1 := Lib.hid (HL.out.trans (hb1.mono hCX))
        have UR1 := Lib.hid (UR.out.below hb1)
        have YR1 := Lib.hid hy1
        have hC1 : C ≤ X1.heap.size := Nat.le_trans hCX hb1.size
        clear hy1 hb1 UR c0 c1 c2 c3 c4 c5
        obtain ⟨c0, c1, c2, c3, c4, c5, _⟩ := (JN'.out _ HL1.out).box
        go_wp2_with fail
        refine (CY.out X1 HL1.out false).mono ?_
        rintro e X2 ⟨na, nc, rfl, hy2, hb2⟩
        have HL2 := Lib.hid (HL1.out.trans (hb2.mono hC1))
        have UR2 := Lib.hid (UR1.out.below hb2)
        have YR2 := Lib.hid (YR1.out.below hb2)
        have NR2 := Lib.hid hy2
        clear hy2 hb2 UR1 YR1 c0 c1 c2 c3 c4 c5
        have BF : Hid (Below B w X2) := Lib.hid (JN'.out _ HL2.out).bel
        have cl := CN.out X2 HL2.out
        have hsum : (((semiOf kas kbs true).length : Int) + ((semiOf kas kbs false).length : Int)) = (xs.length : Int) := by have h1 := SM.out; have h2 := KL.out; omega
        have hb60 : (semiOf kas kbs true).length ≤ 60 ∧ (semiOf kas kbs false).length ≤ 60 := by have h1 := SM.out; have h2 := KL.out; omega
        have AT' : Hid (∀ (has : Bool) (k : Nat), k < xs.length → decide (0 < (rowsOf kbs (kyAt kas k)).length) = has → (semiTo kas kbs has k).length < (semiOf kas kbs has).length ∧ (semiOf kas kbs has)[(semiTo kas kbs has k).length]?.getD 0 = (k : Int) ∧ (semiTo kas kbs has (k + 1)).length = (semiTo kas kbs has k).length + 1) := Lib.hid (fun has k h => AT.out has k (by have := KL.out; omega))
        have NT' : Hid (∀ (has : Bool) (k : Nat), k < xs.length → decide (0 < (rowsOf kbs (kyAt kas k)).length) = !has → (semiTo kas kbs has k).length ≤ (semiOf kas kbs has).length ∧ ((semiTo kas kbs has k).length < (semiOf kas kbs has).length → (semiOf kas kbs has)[(semiTo kas kbs has k).length]?.getD 0 ≠ (k : Int)) ∧ semiTo kas kbs has (k + 1) = semiTo kas kbs has k) := Lib.hid (fun has k h => NT.out has k (by have := KL.out; omega))
        obtain ⟨hb1, hb2⟩ := hb60
        have AT1 := Lib.hid (AT'.out true)
        have AT0 := Lib.hid (AT'.out false)
        have NT1 := Lib.hid (NT'.out true)
        have NT0 := Lib.hid (NT'.out false)
        clear AT NT SM CY CN AT' NT'
        generalize semiOf kas kbs true = T1 at *
        generalize semiOf kas kbs false = T0 at *
        go_wp2_with fail
        refine cl.mono ?_
        rintro e w' ⟨rfl, rfl⟩
        go_wp2_with fail
        go_loopw [10, 11, 12] (fun s t r wr => ∃ k : Nat, k ≤ xs.length ∧ s = .int .i64 (semiTo kas kbs true k).length ∧ t = .int .i64 (semiTo kas kbs false k).length ∧ r = .int .i64 k ∧ Hid (wr = X2)) (fun _ _ r _ => xs.length - (intOf r).toNat)
        case atStart => exact ⟨0, Nat.zero_le _, rfl, rfl, rfl, Lib.hid rfl⟩
        case round =>
          obtain ⟨k, hk, rfl, rfl, rfl, HW⟩ := hrel
          obtain rfl := HW.out
          go_wp2_with fail
          refine cl.mono ?_
          rintro e w' ⟨rfl, rfl⟩
          by_cases hlt : k < xs.length
          · cases hb : decide (0 < (rowsOf kbs (kyAt kas k)).length)
            · -- no partner
              obtain ⟨h1, h2, h3⟩ := NT1.out k hlt (by simpa using hb)
              obtain ⟨h4, h5, h6⟩ := AT0.out k hlt hb
              have G3 : Hid (semiTo kas kbs true (k + 1) = semiTo kas kbs true k) := Lib.hid h3
              have G6 := Lib.hid h6
              obtain ⟨nb, no', rfl, _, hnc⟩ := NR2.out.at h4
              rw [h5] at hnc
              have hi60 : (semiTo kas kbs true k).length ≤ 60 := by omega
              have hj60 : (semiTo kas kbs false k).length ≤ 60 := by omega
              clear h3 h5 h6 hb
              by_cases hi : (semiTo kas kbs true k).length < T1.length
              · obtain ⟨ub, uo, rfl, _, huc⟩ := UR2.out.at hi
                have hne := h2 hi
                generalize T1[(semiTo kas kbs true k).length]?.getD 0 = z at *
                have tz : (z == (k : Int)) = false := by simpa using hne
                clear h2 hne
                generalize hiv : (semiTo kas kbs true k).length = i at *
                have HIV := Lib.hid hiv
                generalize hjv : (semiTo kas kbs false k).length = j at *
                have HJV := Lib.hid hjv
                clear hiv hjv
                go_wp2_with fail
                go_roundw
                case rel => exact ⟨k + 1, by omega, by rw [G3.out, HIV.out], by rw [G6.out]; go_num, by go_num, Lib.hid trivial⟩
                case measure => simp [intOf]; omega
              · clear h2
                generalize hiv : (semiTo kas kbs true k).length = i at *
                have HIV := Lib.hid hiv
                generalize hjv : (semiTo kas kbs false k).length = j at *
                have HJV := Lib.hid hjv
                clear hiv hjv
                have ti : decide (i < T1.length) = false := decide_eq_false hi
                go_wp2_with fail
                go_roundw
                case rel => exact ⟨k + 1, by omega, by rw [G3.out, HIV.out], by rw [G6.out]; go_num, by go_num, Lib.hid trivial⟩
                case measure => simp [intOf]; omega
            · obtain ⟨h1, h2, h3⟩ := NT0.out k hlt (by simpa using hb)
              obtain ⟨h4, h5, h6⟩ := AT1.out k hlt hb
              have G3 : Hid (semiTo kas kbs false (k + 1) = semiTo kas kbs false k) := Lib.hid h3
              have G6 := Lib.hid h6
              obtain ⟨ub, uo, rfl, _, huc⟩ := UR2.out.at h4
              obtain ⟨yb, yo, rfl, _, hyc⟩ := YR2.out.at h4
              rw [h5] at huc hyc
              have hi60 : (semiTo kas kbs true k).length ≤ 60 := by omega
              have hj60 : (semiTo kas kbs false k).length ≤ 60 := by omega
              clear h2 h3 h5 h6 hb
              generalize hiv : (semiTo kas kbs true k).length = i at *
              have HIV := Lib.hid hiv
              generalize hjv : (semiTo kas kbs false k).length = j at *
              have HJV := Lib.hid hjv
              clear hiv hjv
              go_wp2_with fail
              go_roundw
              case rel => exact ⟨k + 1, by omega, by rw [G6.out]; go_num, by rw [G3.out, HJV.out], by go_num, Lib.hid trivial⟩
              case measure => simp [intOf]; omega
          · have tl : decide (k < xs.length) = false := decide_eq_false hlt
            go_wp2_with fail
            go_ret
            exact ⟨rfl, by rw [HB.out]; exact BF.out⟩
end Go.Proofs.Ytcecndjkfdaaaaa
