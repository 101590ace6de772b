/- LexPieces, walked. -/
import Derived.Test.YtecijhaclbbccaaDoorLxTm
import Derived.Test.YtecijhaclbbccaaDoorPArg
import Derived.Test.YtecijhaclbbccaaDoorLxL
namespace Go.Proofs.YtecijhaclbbccaaDoor
open Go.RowKit
set_option linter.unusedVariables false
set_option linter.unusedSimpArgs false

def pcOf (x : PV) : Pc := ⟨uN x.1 % 5, uN x.2.1, uN x.2.2 % 6, uN_lt _, Nat.mod_lt _ (by omega)⟩
def wantM (g : Nat) (L : List Pc) : Bytes := gapT.getD g [] ++ enc L
theorem want_snoc (g : Nat) (L : List Pc) (x : Pc) : wantM g (L ++ [x]) = wantM g L ++ x.txt ++ x.gap := by unfold wantM; rw [enc_snoc]; simp
theorem take_snoc (T : List PV) {k : Nat} (h : k < T.length) : (T.map pcOf).take (k + 1) = (T.map pcOf).take k ++ [pcOf (atP T k)] := by
  rw [List.take_succ_eq_append_getElem (by simpa using h)]
  simp [atP, h]
theorem bytes_app (l m : Bytes) : (⟨l.toArray⟩ : ByteArray) ++ ⟨m.toArray⟩ = ⟨(l ++ m).toArray⟩ := by
  apply ByteArray.ext
  simp
theorem gap_len : ∀ i, i < 6 → (gapT.getD i []).length ≤ 8 := by decide
theorem want_len (g : Nat) (hg : g < 6) (L : List Pc) : (wantM g L).length ≤ 28 * L.length + 8 := by
  have := enc_len L; have := gap_len g hg; unfold wantM; rw [List.length_append]; omega
set_option maxRecDepth 100000 in
set_option maxHeartbeats 4000000 in
theorem lexPieces_walk (a : Option Addr) (T : List PV) (cap : Nat) (first : Int) (fin : Bool) (w : World) (ht : SignTab w) (hT : PArgs w a T) : Calls Tryd.prog 3 #[.slice a T.length cap, .int .i64 first, .bool fin] w (TrueRet w) := by
  obtain ⟨i0, hi0, hz0, hz1, hz2⟩ := info_parts info31
  have I := Lib.hid hi0
  have Z0 := Lib.hid hz0
  have Z1 := Lib.hid hz1
  have Z2 := Lib.hid hz2
  clear hi0 hz0 hz1 hz2
  have ch := head12_calls w ht
  have HT := Lib.hid ht
  have HTA := Lib.hid hT
  clear ht hT
  obtain ⟨B, hB⟩ : ∃ B, w.heap.size = B := ⟨_, rfl⟩
  have HB := Lib.hid hB
  clear hB
  by_cases h60 : 60 < T.length
  · have t1 : decide ((60 : Int) < (T.length : Int)) = true := decide_eq_true (by omega)
    go_enter Tryd.func3, Tryd.ntmps3
    go_wp2_with fail
    refine ch.mono ?_
    rintro e w1 ⟨rfl, hb1⟩
    have B1 := Lib.hid hb1
    clear hb1 ch
    go_wp2_with fail
    go_ret
    exact ⟨rfl, B1.out⟩
  have t1 : decide ((60 : Int) < (T.length : Int)) = false := decide_eq_false (by omega)
  have hn : T.length ≤ 60 := by omega
  obtain ⟨n, hnn⟩ : ∃ n, T.length = n := ⟨_, rfl⟩
  have HN := Lib.hid hnn
  go_enter Tryd.func3, Tryd.ntmps3
  rw [hnn]
  rw [hnn] at t1 hn
  clear hnn
  go_wp2_with fail
  refine ch.mono ?_
  rintro e w1 ⟨rfl, hb1⟩
  rw [HB.out] at hb1
  have B1 := Lib.hid hb1
  have s1 : B ≤ w1.heap.size := by have := hb1.size; rw [HB.out] at this; exact this
  clear hb1 ch h60
  go_wp2_with fail
  obtain ⟨g, hg⟩ : ∃ g, uN first % 6 = g := ⟨_, rfl⟩
  have hg6 : g < 6 := by rw [← hg]; exact Nat.mod_lt _ (by omega)
  have cg := gap_calls first w1
  rw [hg] at cg
  obtain ⟨s0, hs0⟩ : ∃ x : ByteArray, (⟨(gapT.getD g []).toArray⟩ : ByteArray) = x := ⟨_, rfl⟩
  rw [hs0] at cg
  have HS0 : Hid (s0 = ⟨(wantM g ((T.map pcOf).take 0)).toArray⟩) := Lib.hid (by rw [← hs0]; simp [wantM, enc])
  clear hs0
  refine cg.mono ?_
  rintro e w2 ⟨rfl, hb2⟩
  have B2 : Hid (Below B w w2) := Lib.hid (B1.out.trans (hb2.mono s1))
  have s2 : B ≤ w2.heap.size := by have := hb2.size; omega
  clear hb2 cg hg
  have O0 : Hid ((w2.alloc (.cells #[] 31)).ownsRow B 31 4 (.slice (some ⟨w2.heap.size, 0, none⟩) 0 0) (toks (gapT.getD g []).length ((T.map pcOf).take 0)).length (flatT (toks (gapT.getD g []).length ((T.map pcOf).take 0)))) := Lib.hid (World.ownsRow_lit (base := B) (e := 31) (size := 4) w2 #[] 0 s2 (by decide) rfl)
  have BA0 : Hid (Below B w (w2.alloc (.cells #[] 31))) := Lib.hid (B2.out.alloc s2 _)
  go_wp2_with fail
  go_loopw [7, 8, 26] (fun vs v i wr => ∃ (k : Nat) (s : ByteArray), k ≤ n ∧ i = .int .i64 k ∧ vs = .string s ∧ Hid (s = ⟨(wantM g ((T.map pcOf).take k)).toArray⟩) ∧ Hid (wr.ownsRow B 31 4 v (toks (gapT.getD g []).length ((T.map pcOf).take k)).length (flatT (toks (gapT.getD g []).length ((T.map pcOf).take k)))) ∧ Hid (Below B w wr)) (fun _ _ i _ => n - (intOf i).toNat)
  case atStart => exact ⟨0, s0, Nat.zero_le _, rfl, rfl, HS0, O0, BA0⟩
  case round =>
    obtain ⟨k, s, hk, rfl, rfl, HS, HO, HBe⟩ := hrel
    have hBr : B ≤ wr.heap.size := by have := HBe.out.size; rw [HB.out] at this; exact this
    have hsz : s.size ≤ 1700 := by
      have h1 := want_len g hg6 ((T.map pcOf).take k)
      have h2 := List.length_take_le k (T.map pcOf)
      rw [HS.out, size_lit]; omega
    by_cases hlt : k < n
    · have hlT : k < T.length := by rw [HN.out]; exact hlt
      obtain ⟨b, off, hadr, A0, A1, A2⟩ : ∃ b off, a = some ⟨b, off, none⟩ ∧ wr.cell? ⟨b, off + k * 3, none⟩ = some (.int .i64 (atP T k).1) ∧ wr.cell? ⟨b, off + k * 3 + 1, none⟩ = some (.int .i64 (atP T k).2.1) ∧ wr.cell? ⟨b, off + k * 3 + 2, none⟩ = some (.int .i64 (atP T k).2.2) := by
        rcases HTA.out.cells with h0 | ⟨b, off, ha, hb, hc⟩
        · subst h0; simp at hlT
        · obtain ⟨q0, q1, q2⟩ := hc k hlT
          have hbB : b < B := by rw [← HB.out]; exact hb
          exact ⟨b, off, ha, (HBe.out.cell (p := ⟨b, _, none⟩) hbB).trans q0, (HBe.out.cell (p := ⟨b, _, none⟩) hbB).trans q1, (HBe.out.cell (p := ⟨b, _, none⟩) hbB).trans q2⟩
      have TS := Lib.hid (take_snoc T hlT)
      have CT : Hid (∀ W, Calls Tryd.prog 10 #[.agg #[.int .i64 (atP T k).1, .int .i64 (atP T k).2.1, .int .i64 (atP T k).2.2]] W (TokRet W (pcK (pcOf (atP T k)).K (pcOf (atP T k)).u) (pcOf (atP T k)).txt)) := Lib.hid (fun W => token_calls _ _ _ W)
      have CG : Hid (∀ W, Calls Tryd.prog 9 #[.int .i64 (atP T k).2.2] W (StrRet W ⟨((pcOf (atP T k)).gap).toArray⟩)) := Lib.hid (fun W => gap_calls _ W)
      generalize pcOf (atP T k) = x at *
      generalize atP T k = y at *
      obtain ⟨x1, x2, x3⟩ := y
      simp only at A0 A1 A2 CT CG
      obtain ⟨t, htk⟩ : ∃ t, pcK x.K x.u = t := ⟨_, rfl⟩
      have HTK := Lib.hid htk
      rw [htk] at CT
      have hxl := pc_len x
      obtain ⟨tx, htx⟩ : ∃ y : ByteArray, (⟨x.txt.toArray⟩ : ByteArray) = y := ⟨_, rfl⟩
      obtain ⟨gx, hgx⟩ : ∃ y : ByteArray, (⟨x.gap.toArray⟩ : ByteArray) = y := ⟨_, rfl⟩
      have htz : tx.size ≤ 20 := by rw [← htx, size_lit]; exact hxl.1
      have hgz : gx.size ≤ 8 := by rw [← hgx, size_lit]; exact hxl.2
      rw [hgx] at CG
      have NS : Hid (s ++ tx ++ gx = ⟨(wantM g ((T.map pcOf).take (k + 1))).toArray⟩) := Lib.hid (by rw [HS.out, ← htx, ← hgx, bytes_app, bytes_app, TS.out, want_snoc])
      have NK : Hid (toks (gapT.getD g []).length ((T.map pcOf).take (k + 1)) = toks (gapT.getD g []).length ((T.map pcOf).take k) ++ [⟨t.kind, t.text, t.num, s.size⟩]) := Lib.hid (by
        rw [TS.out, toks_snoc]
        have h1 : (s.size : Int) = (((gapT.getD g []).length + (enc ((T.map pcOf).take k)).length : Nat) : Int) := by rw [HS.out, size_lit]; unfold wantM; rw [List.length_append]
        have h2 : (pcK x.K x.u).at' = 0 := by match x.K with | 0 => rfl | 1 => rfl | 2 => rfl | 3 => rfl | K + 4 => rfl
        show _ ++ [(pcK x.K x.u).up _] = _
        unfold Tk.up
        rw [h2, h1, htk, Int.zero_add])
      have htl : (toks (gapT.getD g []).length ((T.map pcOf).take k)).length = k := by rw [toks_len, List.length_take, List.length_map, HN.out]; omega
      generalize toks (gapT.getD g []).length ((T.map pcOf).take k) = acc at *
      clear TS htk hxl hgx
      subst hadr
      have FX : Hid (⟨x.txt.toArray⟩ = tx) := Lib.hid htx
      clear htx
      obtain ⟨M, hM⟩ : ∃ M, wr.heap.size = M := ⟨_, rfl⟩
      have HM := Lib.hid hM
      have W1 : Hid ((wr.alloc (.cells #[.int .i64 x1, .int .i64 x2, .int .i64 x3] 27)).cell? ⟨M, 2, none⟩ = some (.int .i64 x3)) := Lib.hid (by rw [← hM, World.cell?_alloc_at _ _ _ _ rfl]; rfl)
      have B3 : Hid (Below B w (wr.alloc (.cells #[.int .i64 x1, .int .i64 x2, .int .i64 x3] 27))) := Lib.hid (HBe.out.alloc hBr _)
      have BM : Hid (Below M wr (wr.alloc (.cells #[.int .i64 x1, .int .i64 x2, .int .i64 x3] 27))) := Lib.hid ((Below.refl M wr).alloc (by omega) _)
      have SM : Hid ((wr.alloc (.cells #[.int .i64 x1, .int .i64 x2, .int .i64 x3] 27)).heap.size = M + 1) := Lib.hid (by simp [hM])
      have hMB : B ≤ M := by omega
      have OL := Lib.hid (fun (r : Nat) hr => (HO.out.lt r hr).2)
      rw [hM] at OL
      clear hM
      go_wp2_with fail
      refine (CT.out _).mono ?_
      generalize World.alloc wr _ = Wa at *
      rintro e w3 ⟨rfl, hb3⟩
      rw [FX.out]
      have BM3 : Hid (Below M wr w3) := Lib.hid (BM.out.trans (hb3.mono (by rw [SM.out]; omega)))
      have B5 : Hid (Below B w w3) := Lib.hid (B3.out.trans (hb3.mono (by rw [SM.out]; omega)))
      have C3 : w3.cell? ⟨M, 2, none⟩ = some (.int .i64 x3) := (hb3.cell (p := ⟨M, 2, none⟩) (by rw [SM.out]; show M < M + 1; omega)).trans W1.out
      have s3 : M + 1 ≤ w3.heap.size := by have := hb3.size; rw [SM.out] at this; exact this
      have O3 := Lib.hid (owns_below HO.out (by rw [HM.out]; exact BM3.out))
      obtain ⟨N3, hN3⟩ : ∃ N3, w3.heap.size = N3 := ⟨_, rfl⟩
      have HN3 := Lib.hid hN3
      rw [hN3] at s3
      clear hb3
      have O4 := Lib.hid (owns_below O3.out ((Below.refl _ _).alloc (Nat.le_refl _) (.cells #[.int .i64 t.kind, .string t.text, .int .u64 t.num, .int .i64 s.size] 31)))
      have B6 : Hid (Below B w (w3.alloc (.cells #[.int .i64 t.kind, .string t.text, .int .u64 t.num, .int .i64 s.size] 31))) := Lib.hid (B5.out.alloc (by omega) _)
      clear hN3
      generalize t.kind = tk at *
      generalize t.text = tt at *
      generalize t.num = tn at *
      go_wp2_with (first | (at_builtin; refine wpList_append_own _ rfl _ _ 25 rfl B 31 i0 (.agg #[.int .i64 0, .string ⟨#[]⟩, .int .u64 0, .int .i64 0]) 4 40 Tryd.underlying25 I.out Z0.out Z1.out Z2.out rfl (by decide) _ _ _ rfl (O4.out.alloc _) ⟨w3.heap.size + 1, 0, none⟩ 1 1 [.int .i64 tk, .string tt, .int .u64 tn, .int .i64 s.size] rfl rfl ?c1 ?c2 ?c3 ?c4 ?c5 ?_))
      case c1 =>
        have h9 := cell_four_new (w3.alloc (.cells #[.int .i64 tk, .string tt, .int .u64 tn, .int .i64 s.size] 31)) (.int .i64 tk) (.string tt) (.int .u64 tn) (.int .i64 s.size) 31
        simpa using h9
      case c2 =>
        intro u hu
        simp only [List.mem_cons, List.not_mem_nil, or_false] at hu
        rcases hu with rfl | rfl | rfl | rfl <;> rfl
      case c3 => unfold maxLen; omega
      case c4 => have := HN3.out; omega
      case c5 => have := HN3.out; simp; omega
      intro v' w4 hown hgrow _
      have O5 : Hid (w4.ownsRow B 31 4 v' (acc ++ [(⟨tk, tt, tn, s.size⟩ : Tk)]).length (flatT (acc ++ [(⟨tk, tt, tn, s.size⟩ : Tk)]))) := Lib.hid (by rw [flatT_push, List.length_append, htl]; exact hown)
      have B7 : Hid (Below B w w4) := Lib.hid ((B6.out.alloc (by have := HN3.out; simp; omega) _).grown hgrow (by have := HN3.out; simp; omega) (fun k hk => (O4.out.lt k hk).1))
      have C4 : w4.cell? ⟨M, 2, none⟩ = some (.int .i64 x3) := by
        have hg5 := hgrow.block M (by have := HN3.out; simp; omega) (fun h => by have := OL.out M h.symm; omega)
        have hb5 : Below (M + 1) w3 ((w3.alloc (.cells #[.int .i64 tk, .string tt, .int .u64 tn, .int .i64 s.size] 31)).alloc (.cells #[.int .i64 tk, .string tt, .int .u64 tn, .int .i64 s.size] 31)) := ((Below.refl (M + 1) w3).alloc (by have := HN3.out; omega) _).alloc (by have := HN3.out; simp; omega) _
        exact (World.cell?_of_block (a := ⟨M, 2, none⟩) (hg5.trans (hb5.block M (by omega)))).trans C3
      have s4 : B ≤ w4.heap.size := by have := B7.out.size; rw [HB.out] at this; exact this
      have NS' : Hid ((⟨(wantM g ((T.map pcOf).take (k + 1))).toArray⟩ : ByteArray) = s ++ tx ++ gx) := Lib.hid (by rw [← NS.out])
      have NK' : Hid (acc ++ [(⟨tk, tt, tn, s.size⟩ : Tk)] = toks (gapT.getD g []).length ((T.map pcOf).take (k + 1))) := Lib.hid NK.out.symm
      clear hown hgrow C3 A0 A1 A2
      have MX := HM.out
      go_wp2_with fail
      refine (CG.out _).mono ?_
      rintro e w5 ⟨rfl, hb5⟩
      have O6 := Lib.hid (owns_below O5.out hb5)
      have B8 : Hid (Below B w w5) := Lib.hid (B7.out.trans (hb5.mono s4))
      rw [NK'.out] at O6
      clear hb5 C4
      go_wp2_with fail
      go_roundw
      case rel => exact ⟨k + 1, s ++ tx ++ gx, by omega, by go_num, rfl, Lib.hid NS'.out.symm, O6, B8⟩
      case measure => simp [intOf]; omega
    · obtain rfl : k = n := by omega
      have TL : Hid ((T.map pcOf).take k = T.map pcOf) := Lib.hid (List.take_of_length_le (by rw [List.length_map, HN.out]; omega))
      have tl : Hid ((toks (gapT.getD g []).length (T.map pcOf)).length = k) := Lib.hid (by rw [toks_len, List.length_map, HN.out])
      rw [TL.out] at HS HO
      rw [tl.out] at HO
      clear HTA BA0 O0 HS0 s1 s2 B1 B2
      obtain ⟨N4, hN4⟩ : ∃ N4, wr.heap.size = N4 := ⟨_, rfl⟩
      have HN4 := Lib.hid hN4
      clear hN4
      cases fin with
      | false =>
        have FIN : Hid (allM (bs s) = .ok (toks (gapT.getD g []).length (T.map pcOf) ++ [⟨0, ⟨#[]⟩, 0, s.size⟩])) := Lib.hid (by
          have h1 := allM_enc (tail := []) rfl hg6 (T.map pcOf)
          rw [List.append_nil] at h1
          rw [HS.out, bs_mk, size_lit]
          exact h1)
        have hsz2 : s.size ≤ 2000 := by omega
        generalize toks (gapT.getD g []).length (T.map pcOf) = acc at *
        clear HS
        go_wp2_with (first | (at_builtin; refine wpList_append_own _ rfl _ _ 25 rfl B 31 i0 (.agg #[.int .i64 0, .string ⟨#[]⟩, .int .u64 0, .int .i64 0]) 4 40 Tryd.underlying25 I.out Z0.out Z1.out Z2.out rfl (by decide) _ _ _ rfl (HO.out.alloc _) ⟨wr.heap.size, 0, none⟩ 1 1 [.int .i64 0, .string ⟨#[]⟩, .int .u64 0, .int .i64 s.size] rfl rfl ?e1 ?e2 ?e3 ?e4 ?e5 ?_))
        case e1 => exact cell_four_new wr _ _ _ _ 31
        case e2 =>
          intro u hu
          simp only [List.mem_cons, List.not_mem_nil, or_false] at hu
          rcases hu with rfl | rfl | rfl | rfl <;> rfl
        case e3 => unfold maxLen; omega
        case e4 => omega
        case e5 => simp; omega
        intro v' w4 hown hgrow _
        have O5 : w4.ownsRow B 31 4 v' (acc ++ [(⟨0, ⟨#[]⟩, 0, s.size⟩ : Tk)]).length (flatT (acc ++ [(⟨0, ⟨#[]⟩, 0, s.size⟩ : Tk)])) := by rw [flatT_push, List.length_append, tl.out]; exact hown
        obtain ⟨a8, c8, rfl, ht8⟩ := trow_of_owns O5
        have B7 : Hid (Below B w w4) := Lib.hid ((HBe.out.alloc hBr _).grown hgrow (by simp; omega) (fun k hk => (HO.out.lt k hk).1))
        have s4 : B ≤ w4.heap.size := by have := B7.out.size; rw [HB.out] at this; exact this
        have HT8 := Lib.hid ht8
        clear hown hgrow O5 ht8
        obtain ⟨Z, hZ⟩ : ∃ Z, acc ++ [(⟨0, ⟨#[]⟩, 0, s.size⟩ : Tk)] = Z := ⟨_, rfl⟩
        rw [hZ] at FIN HT8 ⊢
        have hZl : 0 < Z.length ∧ Z.length ≤ 100 := by rw [← hZ, List.length_append, tl.out]; simp; omega
        clear hZ
        have ca := all_calls s w4 (by omega) (HT.out.below (by rw [HB.out]; exact B7.out))
        rw [FIN.out] at ca
        go_wp2_with fail
        refine ca.mono ?_
        rintro e w5 ⟨hb5, a9, c9, rfl, hr9⟩
        have B8 : Hid (Below B w w5) := Lib.hid (B7.out.trans (hb5.mono s4))
        have s5 : B ≤ w5.heap.size := by have := hb5.size; omega
        have R8 : Hid (TRow w5 a8 Z) := Lib.hid (HT8.out.below hb5)
        have R9 := Lib.hid hr9
        clear ca hb5 hr9
        rcases R8.out with h | ⟨gx, rfl, hgx, hcx⟩
        · rw [h] at hZl; simp at hZl
        rcases R9.out with h | ⟨gy, rfl, hgy, hcy⟩
        · rw [h] at hZl; simp at hZl
        have CX := Lib.hid hcx
        have CY := Lib.hid hcy
        clear hcx hcy R8 R9
        obtain ⟨m, hm⟩ : ∃ m, Z.length = m := ⟨_, rfl⟩
        rw [hm] at hZl ⊢
        have HM := Lib.hid hm
        clear hm
        go_wp2_with fail
        go_loopw [75] (fun i W => ∃ k : Nat, k ≤ m ∧ i = .int .i64 k ∧ Hid (Below w5.heap.size w5 W)) (fun i _ => m - (intOf i).toNat)
        case atStart => exact ⟨0, Nat.zero_le _, rfl, Lib.hid (Below.refl _ _)⟩
        case round =>
          obtain ⟨q, hq, rfl, HQ⟩ := hrel
          by_cases hlt2 : q < m
          · obtain ⟨p0, p1, p2, p3⟩ := CX.out q (by rw [HM.out]; exact hlt2)
            obtain ⟨r0, r1, r2, r3⟩ := CY.out q (by rw [HM.out]; exact hlt2)
            have d0 := (HQ.out.cell (p := ⟨gx, _, none⟩) hgx).trans p0
            have d1 := (HQ.out.cell (p := ⟨gx, _, none⟩) hgx).trans p1
            have d2 := (HQ.out.cell (p := ⟨gx, _, none⟩) hgx).trans p2
            have d3 := (HQ.out.cell (p := ⟨gx, _, none⟩) hgx).trans p3
            have f0 := (HQ.out.cell (p := ⟨gy, _, none⟩) hgy).trans r0
            have f1 := (HQ.out.cell (p := ⟨gy, _, none⟩) hgy).trans r1
            have f2 := (HQ.out.cell (p := ⟨gy, _, none⟩) hgy).trans r2
            have f3 := (HQ.out.cell (p := ⟨gy, _, none⟩) hgy).trans r3
            clear p0 p1 p2 p3 r0 r1 r2 r3
            have BQ : Hid (∀ q, Below w5.heap.size w5 (wr.drewN q)) := Lib.hid (fun q => below_drewN HQ.out q)
            generalize (tkAt Z q).kind = kd at *
            generalize (tkAt Z q).text = tx at *
            generalize (tkAt Z q).num = nm at *
            generalize (tkAt Z q).at' = pc at *
            go_wp2_with fail
            go_quiet (fail)
            go_wp2_with fail
            go_roundw
            case rel => exact ⟨q + 1, by omega, by go_num, Lib.hid (BQ.out _)⟩
            case measure => simp [intOf]; omega
          · go_wp2_with fail
            go_ret
            exact ⟨rfl, by rw [HB.out]; exact B8.out.trans (HQ.out.mono s5)⟩
      | true =>
        obtain ⟨z, hz⟩ : ∃ z : ByteArray, s ++ ⟨#[35, 32, 116, 104, 101, 32, 101, 110, 100]⟩ = z := ⟨_, rfl⟩
        have hzs : z.size = s.size + 9 := by rw [← hz, ByteArray.size_append]; rfl
        have FIN : Hid (allM (bs z) = .ok (toks (gapT.getD g []).length (T.map pcOf) ++ [⟨0, ⟨#[]⟩, 0, (s.size : Int) + 9⟩])) := Lib.hid (by
          have h1 := allM_enc (tail := endT) end_skip hg6 (T.map pcOf)
          have h2 : z = ⟨(gapT.getD g [] ++ (enc (T.map pcOf) ++ endT)).toArray⟩ := by
            rw [← hz, HS.out, show (⟨#[35, 32, 116, 104, 101, 32, 101, 110, 100]⟩ : ByteArray) = ⟨endT.toArray⟩ from rfl, bytes_app]
            unfold wantM; rw [List.append_assoc]
          have h3 : ((s.size : Int) + 9) = ((gapT.getD g [] ++ (enc (T.map pcOf) ++ endT)).length : Int) := by
            have h4 : z.size = (gapT.getD g [] ++ (enc (T.map pcOf) ++ endT)).length := by rw [h2, size_lit]
            rw [← h4, hzs]; omega
          rw [h3, h2, bs_mk]
          exact h1)
        have hsz2 : z.size ≤ 2000 := by omega
        generalize toks (gapT.getD g []).length (T.map pcOf) = acc at *
        clear HS
        go_wp2_with (first | (at_builtin; refine wpList_append_own _ rfl _ _ 25 rfl B 31 i0 (.agg #[.int .i64 0, .string ⟨#[]⟩, .int .u64 0, .int .i64 0]) 4 40 Tryd.underlying25 I.out Z0.out Z1.out Z2.out rfl (by decide) _ _ _ rfl (HO.out.alloc _) ⟨wr.heap.size, 0, none⟩ 1 1 [.int .i64 0, .string ⟨#[]⟩, .int .u64 0, .int .i64 ((s.size : Int) + 9)] rfl rfl ?e1 ?e2 ?e3 ?e4 ?e5 ?_))
        case e1 => exact cell_four_new wr _ _ _ _ 31
        case e2 =>
          intro u hu
          simp only [List.mem_cons, List.not_mem_nil, or_false] at hu
          rcases hu with rfl | rfl | rfl | rfl <;> rfl
        case e3 => unfold maxLen; omega
        case e4 => omega
        case e5 => simp; omega
        intro v' w4 hown hgrow _
        have O5 : w4.ownsRow B 31 4 v' (acc ++ [(⟨0, ⟨#[]⟩, 0, (s.size : Int) + 9⟩ : Tk)]).length (flatT (acc ++ [(⟨0, ⟨#[]⟩, 0, (s.size : Int) + 9⟩ : Tk)])) := by rw [flatT_push, List.length_append, tl.out]; exact hown
        obtain ⟨a8, c8, rfl, ht8⟩ := trow_of_owns O5
        have B7 : Hid (Below B w w4) := Lib.hid ((HBe.out.alloc hBr _).grown hgrow (by simp; omega) (fun k hk => (HO.out.lt k hk).1))
        have s4 : B ≤ w4.heap.size := by have := B7.out.size; rw [HB.out] at this; exact this
        have HT8 := Lib.hid ht8
        clear hown hgrow O5 ht8
        obtain ⟨Z, hZ⟩ : ∃ Z, acc ++ [(⟨0, ⟨#[]⟩, 0, (s.size : Int) + 9⟩ : Tk)] = Z := ⟨_, rfl⟩
        rw [hZ] at FIN HT8 ⊢
        have hZl : 0 < Z.length ∧ Z.length ≤ 100 := by rw [← hZ, List.length_append, tl.out]; simp; omega
        clear hZ
        have ca := all_calls z w4 (by omega) (HT.out.below (by rw [HB.out]; exact B7.out))
        rw [FIN.out] at ca
        go_wp2_with fail
        refine ca.mono ?_
        rintro e w5 ⟨hb5, a9, c9, rfl, hr9⟩
        have B8 : Hid (Below B w w5) := Lib.hid (B7.out.trans (hb5.mono s4))
        have s5 : B ≤ w5.heap.size := by have := hb5.size; omega
        have R8 : Hid (TRow w5 a8 Z) := Lib.hid (HT8.out.below hb5)
        have R9 := Lib.hid hr9
        clear ca hb5 hr9
        rcases R8.out with h | ⟨gx, rfl, hgx, hcx⟩
        · rw [h] at hZl; simp at hZl
        rcases R9.out with h | ⟨gy, rfl, hgy, hcy⟩
        · rw [h] at hZl; simp at hZl
        have CX := Lib.hid hcx
        have CY := Lib.hid hcy
        clear hcx hcy R8 R9
        obtain ⟨m, hm⟩ : ∃ m, Z.length = m := ⟨_, rfl⟩
        rw [hm] at hZl ⊢
        have HM := Lib.hid hm
        clear hm
        go_wp2_with fail
        go_loopw [75] (fun i W => ∃ k : Nat, k ≤ m ∧ i = .int .i64 k ∧ Hid (Below w5.heap.size w5 W)) (fun i _ => m - (intOf i).toNat)
        case atStart => exact ⟨0, Nat.zero_le _, rfl, Lib.hid (Below.refl _ _)⟩
        case round =>
          obtain ⟨q, hq, rfl, HQ⟩ := hrel
          by_cases hlt2 : q < m
          · obtain ⟨p0, p1, p2, p3⟩ := CX.out q (by rw [HM.out]; exact hlt2)
            obtain ⟨r0, r1, r2, r3⟩ := CY.out q (by rw [HM.out]; exact hlt2)
            have d0 := (HQ.out.cell (p := ⟨gx, _, none⟩) hgx).trans p0
            have d1 := (HQ.out.cell (p := ⟨gx, _, none⟩) hgx).trans p1
            have d2 := (HQ.out.cell (p := ⟨gx, _, none⟩) hgx).trans p2
            have d3 := (HQ.out.cell (p := ⟨gx, _, none⟩) hgx).trans p3
            have f0 := (HQ.out.cell (p := ⟨gy, _, none⟩) hgy).trans r0
            have f1 := (HQ.out.cell (p := ⟨gy, _, none⟩) hgy).trans r1
            have f2 := (HQ.out.cell (p := ⟨gy, _, none⟩) hgy).trans r2
            have f3 := (HQ.out.cell (p := ⟨gy, _, none⟩) hgy).trans r3
            clear p0 p1 p2 p3 r0 r1 r2 r3
            have BQ : Hid (∀ q, Below w5.heap.size w5 (wr.drewN q)) := Lib.hid (fun q => below_drewN HQ.out q)
            generalize (tkAt Z q).kind = kd at *
            generalize (tkAt Z q).text = tx at *
            generalize (tkAt Z q).num = nm at *
            generalize (tkAt Z q).at' = pc at *
            go_wp2_with fail
            go_quiet (fail)
            go_wp2_with fail
            go_roundw
            case rel => exact ⟨q + 1, by omega, by go_num, Lib.hid (BQ.out _)⟩
            case measure => simp [intOf]; omega
          · go_wp2_with fail
            go_ret
            exact ⟨rfl, by rw [HB.out]; exact B8.out.trans (HQ.out.mono s5)⟩
end Go.Proofs.YtecijhaclbbccaaDoor
