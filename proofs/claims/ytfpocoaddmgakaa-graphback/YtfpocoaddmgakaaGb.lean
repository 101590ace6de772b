/- The walk of GraphBack. -/
import Derived.Test.YtfpocoaddmgakaaGbM
import Derived.Test.YtfpocoaddmgakaaGc
namespace Go.Proofs.Ytfpocoaddmgakaa
open Go.RowKit
set_option linter.unusedVariables false
set_option linter.unusedSimpArgs false

/-- One edge more. -/
theorem EG.push {B n d d' b rc : Nat} {w wr w5 : World} {K : List Value} {C : Nat → List Int} {ra : Option Addr} {z : Int} {o : Obj} {v' : Value} (h : EG B w wr n d K C) (hb : b < n) (hz : 0 ≤ z ∧ z < (n : Int)) (hd : d + 1 ≤ d') (hrow : atK K b = .slice ra (C b).length rc)
    (hown : w5.ownsRow B 3 1 v' ((C b).length + 1) (ints (C b) ++ [.int .i64 z])) (hgrow : (wr.alloc o).grownBy w5 (Value.slice ra (C b).length rc).ownBlock) (hat : v'.ownBlock = (Value.slice ra (C b).length rc).ownBlock ∨ v'.ownBlock = some (wr.heap.size + 1)) :
    EG B w (w5.setCell ⟨B, b, none⟩ v') n d' (K.set b v') (fun i => if i = b then C b ++ [z] else C i) ∧ w5.cell? ⟨B, b, none⟩ = some (.slice ra (C b).length rc) ∧ w5.frozen? ⟨B, b, none⟩ = false := by
  have hbK : b < K.length := by rw [h.len]; exact hb
  obtain ⟨g9, c9, e9, _, hcell, hfr⟩ := h.pl.cellAt hbK
  obtain ⟨rfl, hmK, rfl⟩ : B = g9 ∧ n = K.length ∧ n = c9 := by simpa using e9
  rw [hrow] at hcell
  have hY1 : B < wr.heap.size := by have := h.sz; omega
  have kk : Keeps (fun c => (atK K b).ownBlock = some c) wr w5 := by
    rw [hrow]
    exact ((Keeps.refl (fun c => (Value.slice ra (C b).length rc).ownBlock = some c) wr).alloc o).trans (Keeps.of_grown hgrow (fun b hb => hb))
  have hat' : ∀ c, v'.ownBlock = some c → (atK K b).ownBlock = some c ∨ wr.heap.size ≤ c := fun c hc => by
    rw [hrow]
    rcases hat with e | e
    · left; rw [← e]; exact hc
    · right; rw [e] at hc; simp at hc; omega
  have far : ¬ (atK K b).ownBlock = some B := fun e => h.pl.far b hbK B e rfl
  have G := h.pl.grow hbK (by omega) hown kk hat'
  have kB : ∀ c, (c = B ∨ (atK K b).ownBlock = some c) → B ≤ c := fun c e => by
    rcases e with e | e
    · omega
    · exact ((h.pl.own b hbK).lt c e).1
  refine ⟨⟨G.1, by rw [List.length_set]; exact h.len, fun i => ?_, fun i u hu => ?_, h.be.trans (G.2.1.below (Nat.le_of_lt hY1) kB), by have := G.2.1.size; omega⟩, ?_, ?_⟩
  · show (if i = b then C b ++ [z] else C i).length ≤ d'
    have := h.deg i
    by_cases e : i = b
    · subst e; rw [if_pos rfl, List.length_append]; simp; omega
    · rw [if_neg e]; omega
  · have hu : u ∈ (if i = b then C b ++ [z] else C i) := hu
    by_cases e : i = b
    · rw [if_pos e, List.mem_append] at hu
      rcases hu with hu | hu
      · exact h.inn b u hu
      · simp at hu; subst hu; exact hz
    · rw [if_neg e] at hu; exact h.inn i u hu
  · rw [World.cell?_of_block (a := ⟨B, b, none⟩) (kk.block B hY1 far)]; exact hcell
  · rw [World.frozen?_of_block (a := ⟨B, b, none⟩) (kk.block B hY1 far)]; exact hfr
theorem EG.made {w1 : World} {n : Nat} (hn : n ≤ 15) : EG w1.heap.size w1 (w1.alloc (.cells (madeCells #[.slice none 0 0] n) 22)) n 0 (List.replicate n (.slice none 0 0)) (fun _ => []) :=
  ⟨PL.made (Nat.le_refl _) (by unfold maxLen; omega) (by rw [heap_alloc_new]), by simp, fun i => by simp, fun i x hx => by simp at hx, (Below.refl _ _).alloc (Nat.le_refl _) _, by simp⟩
theorem EG.smallD {B d : Nat} {w wr : World} {n : Nat} {K : List Value} {C : Nat → List Int} (h : EG B w wr n d K C) (hn : n ≤ 15) (hd : d ≤ 2000) : (PL.rv K C).length = n ∧ (∀ i, i < (PL.rv K C).length → (edgesOf (PL.rv K C) i).length ≤ 2000) ∧ tot (PL.rv K C).length (fun v => (edgesOf (PL.rv K C) v).length) ≤ 1000000 ∧ ∀ i, i < n → edgesOf (PL.rv K C) i = C i := by
  have h1 : (PL.rv K C).length = n := by rw [PL.rvLen, h.len]
  have h3 : ∀ i, i < n → edgesOf (PL.rv K C) i = C i := fun i hi => PL.rvAt (by rw [h.len]; exact hi)
  have h2 : ∀ i, i < (PL.rv K C).length → (edgesOf (PL.rv K C) i).length ≤ 2000 := fun i hi => by
    rw [h1] at hi
    rw [h3 i hi]; have := h.deg i; omega
  refine ⟨h1, h2, ?_, h3⟩
  have := tot_le (n := (PL.rv K C).length) (g := fun _ => 2000) h2
  rw [tot_const, h1] at this
  rw [h1]
  have : n * 2000 ≤ 15 * 2000 := Nat.mul_le_mul_right _ hn
  omega
theorem edge_congr {n : Nat} {E E' : Nat → List Int} (h : ∀ i, i < n → E i = E' i) (a b : Nat) : Edge n E a b ↔ Edge n E' a b := by
  unfold Edge
  constructor
  · rintro ⟨h1, h2, h3⟩; exact ⟨h1, h2, by rw [← h a h1]; exact h3⟩
  · rintro ⟨h1, h2, h3⟩; exact ⟨h1, h2, by rw [h a h1]; exact h3⟩
theorem row_lit1 (w : World) (x : RV) (h : Row w x.1 x.2.1 ∧ x.2.1.length ≤ x.2.2) : RRow (w.alloc (.cells #[encV x] 22)) (some ⟨w.heap.size, 0, none⟩) [x] :=
  rrow_lit w [x] (fun y hy => by rw [List.mem_singleton.1 hy]; exact h)

set_option maxRecDepth 100000 in
set_option maxHeartbeats 8000000 in
theorem back_walk (x : Int) {len cap : Nat} {a : Option Addr} {zs : List Int} {w : World} (h : IsRow .i64 w a len cap zs) : Calls Try.prog 6 #[.int .i64 x, .slice a len cap] w fun e w' => e = .returned (.bool true) ∧ Below w.heap.size w w' := by
  obtain ⟨ys, rfl, hrow, _, hml⟩ := isRow_row h (fun _ h => bounds_i64 h)
  obtain ⟨i1, hi, hz0, hz1, hz2⟩ := info_parts info3
  have I := Lib.hid hi
  have Z0 := Lib.hid hz0
  have Z1 := Lib.hid hz1
  have Z2 := Lib.hid hz2
  obtain ⟨i2, hj, hy0, hy1, hy2⟩ := info_parts info22
  have J := Lib.hid hj
  have Y0 := Lib.hid hy0
  have Y1 := Lib.hid hy1
  have Y2 := Lib.hid hy2
  have c1 := head_calls w
  obtain ⟨n, hn, hmask⟩ := maskB x 4 (by omega) 15 (by decide)
  have hn : n ≤ 15 := by omega
  have HROW := Lib.hid hrow
  clear hi hz0 hz1 hz2 hj hy0 hy1 hy2 hrow h
  go_enter Try.func6, Try.ntmps6
  by_cases hl : ys.length ≤ 100
  · have q1 : decide ((100 : Int) < (ys.length : Int)) = false := decide_eq_false (by omega)
    go_upto_region 6 with (first | (go_at_call 7; refine c1.mono ?_; rintro e w1 ⟨rfl, hb1⟩; have HB1 := Lib.hid hb1; clear hb1))
    clear c1
    have ce := edges_calls (w := w1) (cap := cap) (HROW.out.below HB1.out) hn hl
    go_upto_region 7 with (first | (go_at_call 8; refine ce.mono ?_; rintro e w2 ⟨K, C, rfl, hE⟩; have HE := Lib.hid hE; clear hE))
    clear ce HROW
    obtain ⟨sm1, sm2, sm3, sm4⟩ := HE.out.smallD hn (by omega)
    obtain ⟨ea, ec, e9, hrr⟩ := HE.out.pl.rrow
    rw [HE.out.len] at e9
    obtain ⟨rfl, rfl⟩ : some ⟨w1.heap.size, 0, none⟩ = ea ∧ n = ec := by simpa using e9
    obtain ⟨b1, hb1⟩ : ∃ b, w1.heap.size = b := ⟨_, rfl⟩
    rw [hb1] at hrr ⊢
    have HRR := Lib.hid hrr
    have SM2 := Lib.hid sm2
    have SM3 := Lib.hid sm3
    have DEG : Hid (∀ i, i < n → (edgesOf (PL.rv K C) i).length ≤ 101) := Lib.hid (fun i hi => by rw [sm4 i hi]; exact HE.out.deg i)
    have INN : Hid (∀ i, i < n → ∀ u ∈ edgesOf (PL.rv K C) i, 0 ≤ u ∧ u < (n : Int)) := Lib.hid (fun i hi u hu => by rw [sm4 i hi] at hu; exact HE.out.inn i u hu)
    have BE2 : Hid (Below w.heap.size w w2) := Lib.hid (HB1.out.trans (HE.out.be.mono HB1.out.size))
    generalize PL.rv K C = KR at *
    have SM1 := Lib.hid sm1
    clear sm1 sm2 sm3 sm4 e9 hrr HE HB1 hb1
    go_wp2_with (first | (refine wpList_make_row _ rfl _ _ 24 rfl 22 i2 (.slice none 0 0) Try.underlying24 J.out Y0.out Y1.out rfl .i64 .i64 n rfl rfl ?b3 ?b4 ?_))
    case b3 => rw [Y2.out]; omega
    case b4 => omega
    have M0 := EG.made (w1 := w2) hn
    obtain ⟨B, hB⟩ : ∃ b, w2.heap.size = b := ⟨_, rfl⟩
    rw [hB] at M0 ⊢
    have HBB := Lib.hid hB
    obtain ⟨E, hE⟩ : ∃ E, edgesOf KR = E := ⟨_, rfl⟩
    rw [hE] at DEG INN
    have HEE := Lib.hid hE
    have P0 : Hid (EG B w2 (w2.alloc (.cells (madeCells #[.slice none 0 0] n) 22)) n (0 * 101) (List.replicate n (.slice none 0 0)) (fun _ => []) ∧ BackTo n E 0 0 (fun _ => [])) := Lib.hid ⟨by rw [Nat.zero_mul]; exact M0, BackTo.zero n E⟩
    clear M0 hB hE
    generalize World.alloc w2 _ = wa at *
    go_loopw [33, 7, 8, 10] (fun s33 _ _ _ wv => ∃ (i : Nat) (K : List Value) (C : Nat → List Int), i ≤ n ∧ s33 = .int .i64 (i : Int) ∧ Hid (EG B w2 wv n (i * 101) K C ∧ BackTo n E i 0 C)) (fun s33 _ _ _ _ => n - (intOf s33).toNat)
    case atStart => exact ⟨0, _, _, Nat.zero_le _, rfl, P0⟩
    case round =>
      obtain ⟨i, K, C, hi, rfl, HP⟩ := hrel
      clear P0
      by_cases hin : i < n
      · have i0 : (0 : Int) ≤ (i : Int) := by omega
        have i1' : (i : Int) < (n : Int) := by omega
        have hr2 := HRR.out.belowB HBB.out HP.out.1.be
        obtain ⟨g, off, e3, hg, hc, hrow, _⟩ := hr2.at (k := i) (by rw [SM1.out]; exact hin)
        obtain ⟨rfl, rfl⟩ : b1 = g ∧ 0 = off := by simpa using e3
        rw [Nat.zero_add] at hc
        have hEx : (atV KR i).2.1 = E i := by rw [← HEE.out]; rfl
        rw [hEx] at hc
        have hdx := DEG.out i hin
        obtain ⟨x1, hx1⟩ : ∃ x, (atV KR i).1 = x := ⟨_, rfl⟩
        obtain ⟨x3, hx3⟩ : ∃ x, (atV KR i).2.2 = x := ⟨_, rfl⟩
        have HR : Hid (∀ wv, Below B w2 wv → Row wv x1 (E i)) := Lib.hid (fun wv hb => by
          have := (HRR.out.2 _ (atV_mem (by rw [SM1.out]; exact hin : i < KR.length))).1
          rw [hEx, hx1] at this
          exact this.belowB HBB.out hb)
        rw [hx1, hx3] at hc
        have Q0 : Hid (EG B w2 wr n (i * 101 + 0) K C ∧ BackTo n E i 0 C) := HP
        clear hr2 e3 hrow hEx hx1 hx3 HP
        go_wp2_with fail
        clear hc
        go_loopw [40, 10] (fun s40 _ wv => ∃ (j : Nat) (K : List Value) (C : Nat → List Int), j ≤ (E i).length ∧ s40 = .int .i64 (j : Int) ∧ Hid (EG B w2 wv n (i * 101 + j) K C ∧ BackTo n E i j C)) (fun s40 _ _ => (E i).length - (intOf s40).toNat)
        case atStart => exact ⟨0, _, _, Nat.zero_le _, rfl, Q0⟩
        case round =>
          obtain ⟨j, K, C, hj, rfl, HQ⟩ := hrel
          clear Q0
          by_cases hlj : j < (E i).length
          · have j0 : (0 : Int) ≤ (j : Int) := by omega
            have j1 : (j : Int) < ((E i).length : Int) := by omega
            obtain ⟨xb, xo, rfl, hxb, hxc⟩ := (HR.out wr HQ.out.1.be).at hlj
            have hmem := INN.out i hin _ (List.getElem_mem hlj)
            obtain ⟨b, hbe⟩ : ∃ b : Nat, (E i)[j] = b := ⟨((E i)[j]).toNat, by omega⟩
            rw [hbe] at hmem
            have hbj : (E i)[j]? = some (b : Int) := by rw [List.getElem?_eq_getElem hlj, hbe]
            rw [hbj] at hxc
            have hxc : wr.cell? ⟨xb, xo + j, none⟩ = some (.int .i64 (b : Int)) := hxc
            have hb : b < n := by omega
            have b0 : (0 : Int) ≤ (b : Int) := by omega
            have b1' : (b : Int) < (n : Int) := by omega
            have HBT := Lib.hid (HQ.out.2.put hbj)
            have hbK : b < K.length := by rw [HQ.out.1.len]; exact hb
            obtain ⟨g9, c9, e9, _, hcell, hfr⟩ := HQ.out.1.pl.cellAt hbK
            obtain ⟨rfl, hmK, rfl⟩ : B = g9 ∧ n = K.length ∧ n = c9 := by simpa using e9
            obtain ⟨ra, rc, hrow, hrc⟩ := HQ.out.1.pl.rowForm hbK
            have HOW := Lib.hid (HQ.out.1.pl.own b hbK)
            rw [hrow] at hcell HOW
            have HRO := Lib.hid hrow
            have hdg := HQ.out.1.deg b
            have hsz : B < wr.heap.size := by have := HQ.out.1.sz; omega
            have him : i * 101 ≤ 15 * 101 := Nat.mul_le_mul_right _ (by omega)
            have HEQ : Hid (EG B w2 wr n (i * 101 + j) K C) := Lib.hid HQ.out.1
            clear hmem hbe hbj e9 hmK hrow HQ
            go_wp2_with (first | (at_builtin; refine wpList_append_own_at _ rfl _ _ 22 rfl B 3 i1 (.int .i64 0) 1 8 Try.underlying22 I.out Z0.out Z1.out Z2.out rfl (by decide) _ _ _ rfl (HOW.out.alloc _) ⟨wr.heap.size, 0, none⟩ 1 1 [.int .i64 (i : Int)] rfl rfl ?d1 ?d2 ?d3 ?d4 ?d5 ?_))
            try (case d1 => exact cell_one_new wr _ _)
            case d2 => first | rfl | (intro u hu; simp at hu; subst hu; rfl)
            case d3 => unfold maxLen; omega
            case d4 => omega
            case d5 => first | omega | (simp; omega)
            intro v' w5 hown' hgrow _ hat
            obtain ⟨NE, P1, P2⟩ := HEQ.out.push (d' := i * 101 + (j + 1)) hb ⟨i0, i1'⟩ (by omega) HRO.out hown' hgrow (by simpa using hat)
            obtain ⟨qa, qc, hqa⟩ := row_form' hown'
            subst hqa
            have NX : Hid (EG B w2 (w5.setCell ⟨B, b, none⟩ (.slice qa ((C b).length + 1) qc)) n (i * 101 + (j + 1)) (K.set b (.slice qa ((C b).length + 1) qc)) (fun t => if t = b then C b ++ [(i : Int)] else C t) ∧ BackTo n E i (j + 1) (fun t => if t = b then C b ++ [(i : Int)] else C t)) := Lib.hid ⟨NE, HBT.out⟩
            clear hown' hgrow hat NE HEQ HOW hcell hfr hxc
            go_wp2_with fail
            go_roundw
            case rel => exact ⟨j + 1, _, _, by omega, by go_num, NX⟩
            case measure => simp [intOf]; omega
          · obtain rfl : j = (E i).length := by omega
            have NX : Hid (EG B w2 wr n ((i + 1) * 101) K C ∧ BackTo n E (i + 1) 0 C) := Lib.hid ⟨HQ.out.1.more (by rw [Nat.succ_mul]; omega), HQ.out.2.row (Nat.le_refl _)⟩
            clear HQ
            go_wp2_with fail
            go_roundw
            case rel => exact ⟨i + 1, _, _, by omega, by go_num, NX⟩
            case measure => simp [intOf]; omega
      · obtain rfl : i = n := by omega
        have hi2 : i * 101 ≤ 15 * 101 := Nat.mul_le_mul_right _ hn
        obtain ⟨tm1, tm2, tm3, tm4⟩ := HP.out.1.smallD hn (by omega)
        obtain ⟨ea, ec, e9, hrr⟩ := HP.out.1.pl.rrow
        rw [HP.out.1.len] at e9
        obtain ⟨rfl, rfl⟩ : some ⟨B, 0, none⟩ = ea ∧ i = ec := by simpa using e9
        have HRB := Lib.hid hrr
        have TED : Hid (∀ u v, Edge i (edgesOf (PL.rv K C)) u v ↔ Edge i E v u) := Lib.hid (fun u v => (edge_congr tm4 u v).trans (HP.out.2.edge u v))
        have TM2 := Lib.hid tm2
        have TM3 := Lib.hid tm3
        generalize PL.rv K C = KB at *
        have TM1 := Lib.hid tm1
        have HRA := Lib.hid (HRR.out.belowB HBB.out HP.out.1.be)
        have BE3 : Hid (Below w.heap.size w wr) := Lib.hid (BE2.out.trans (HP.out.1.be.mono (by rw [← HBB.out]; exact BE2.out.size)))
        have cc := comps_calls (ec := i) HRA.out (fun i hi => by have := SM2.out i hi; omega) SM3.out (by rw [SM1.out]; omega)
        rw [SM1.out, HEE.out] at cc
        clear tm1 tm2 tm3 tm4 e9 hrr HP HRR HRA SM2 SM3
        go_upto_region 18 with (first | (go_at_call 10; refine cc.mono ?_; rintro e w3 ⟨a3, p3, M3, rfl, h1, h2, h3⟩; have R3 := Lib.hid h1; have C3 := Lib.hid h2; have B3 := Lib.hid h3; clear h1 h2 h3))
        clear cc
        have cd := comps_calls (ec := i) (HRB.out.below B3.out) (fun i hi => by have := TM2.out i hi; omega) TM3.out (by rw [TM1.out]; omega)
        rw [TM1.out] at cd
        go_upto_region 19 with (first | (go_at_call 10; refine cd.mono ?_; rintro e w4 ⟨a4, p4, M4, rfl, h1, h2, h3⟩; have R4 := Lib.hid h1; have C4 := Lib.hid h2; have B4 := Lib.hid h3; clear h1 h2 h3))
        clear cd
        obtain ⟨f, f0, fs, fn, fl, hlen, hsub⟩ := turned C3.out C4.out TED.out
        simp only [List.length_map] at fs fn hlen
        have l3 := (C3.out.small).1
        rw [List.length_map] at l3
        have R3' := Lib.hid (R3.out.below B4.out)
        have BE4 : Hid (Below w.heap.size w w4) := Lib.hid (by
          have s3 := BE3.out.size
          have s4 := B3.out.size
          exact (BE3.out.trans (B3.out.mono s3)).trans (B4.out.mono (by omega)))
        have LM3 : Hid (∀ y ∈ M3, y.2.1.length ≤ 1000000) := Lib.hid (C3.out.lens (by omega)).2
        have LM4 : Hid (∀ y ∈ M4, y.2.1.length ≤ 1000000) := Lib.hid (C4.out.lens (by omega)).2
        have FS : Hid (∀ k (hk : k < M3.length), f (k + 1) = f k + (atV M3 k).2.1.length) := Lib.hid (fun k hk => by
          rw [fs k hk, List.getElem_map, atV_eq hk])
        have SUB : Hid (∀ k, k < M3.length → (atV M3 k).2.1 ∈ rowsOf M4) := Lib.hid (fun k hk => hsub _ (List.mem_map.2 ⟨_, atV_mem hk, rfl⟩))
        have FL := Lib.hid fl
        have F0 := Lib.hid f0
        clear f0 fs fl hsub R3 C3 C4 TED B3 B4 HRB BE3
        obtain ⟨N, hN⟩ : ∃ N, M3.length = N := ⟨_, rfl⟩
        have hN4 : M4.length = N := by rw [← hlen, hN]
        rw [hN] at l3 fn
        have FN := Lib.hid fn
        rw [hN, hN4]
        have HN3 := Lib.hid hN
        have HN4 := Lib.hid hN4
        clear hN hN4 hlen fn
        have W0 : Hid (Below w4.heap.size w4 w4) := Lib.hid (Below.refl _ _)
        go_wp2_with fail
        go_loopw [62, 13, 15, 16, 18] (fun s62 s13 _ _ _ wv => ∃ k : Nat, k ≤ N ∧ s62 = .int .i64 (k : Int) ∧ s13 = .int .i64 ((f k : Nat) : Int) ∧ Hid (Below w4.heap.size w4 wv)) (fun s62 _ _ _ _ _ => N - (intOf s62).toNat)
        case atStart => exact ⟨0, Nat.zero_le _, rfl, by rw [F0.out]; rfl, W0⟩
        case round =>
          obtain ⟨k, hk, rfl, rfl, HW⟩ := hrel
          clear W0
          by_cases hkN : k < N
          · have hkl : k < M3.length := by rw [HN3.out]; exact hkN
            have k0 : (0 : Int) ≤ (k : Int) := by omega
            have k1 : (k : Int) < (N : Int) := by omega
            obtain ⟨g, off, rfl, hg, hc, _, _⟩ := (R3'.out.below HW.out).at hkl
            have HSUB := Lib.hid (SUB.out k hkl)
            have HFS := Lib.hid (FS.out k hkl)
            have HL1 := Lib.hid (LM3.out _ (atV_mem hkl))
            have HC : Hid (∀ wv, Below w4.heap.size w4 wv → Row wv (atV M3 k).1 (atV M3 k).2.1 ∧ (atV M3 k).2.1.length ≤ (atV M3 k).2.2) := Lib.hid (fun wv hb => (R3'.out.below hb).2 _ (atV_mem hkl))
            generalize atV M3 k = xc at *
            obtain ⟨c1, c2, c3⟩ := xc
            dsimp only at hc HSUB HFS HL1 HC
            have hfk := FL.out (k + 1)
            rw [HFS.out] at hfk
            have Q0 : Hid (Below w4.heap.size w4 wr) := HW
            clear HW
            go_wp2_with fail
            clear hc
            go_loopw [68, 16, 18] (fun s68 s16 _ wv => ∃ (j : Nat) (b : Bool), j ≤ N ∧ s68 = .int .i64 (j : Int) ∧ s16 = .bool b ∧ Hid (Below w4.heap.size w4 wv) ∧ Hid (b = decide (c2 ∈ (rowsOf M4).take j))) (fun s68 _ _ _ => N - (intOf s68).toNat)
            case atStart => exact ⟨0, false, Nat.zero_le _, rfl, rfl, Q0, Lib.hid (by simp)⟩
            case round =>
              obtain ⟨j, b, hj, rfl, rfl, HW, HB⟩ := hrel
              clear Q0
              by_cases hjN : j < N
              · have hlj : j < M4.length := by rw [HN4.out]; exact hjN
                have j0 : (0 : Int) ≤ (j : Int) := by omega
                have j1 : (j : Int) < (N : Int) := by omega
                obtain ⟨g2, off2, rfl, hg2, hc, _, _⟩ := (R4.out.below HW.out).at hlj
                have HD := Lib.hid ((R4.out.below HW.out).2 _ (atV_mem hlj))
                have HL2 := Lib.hid (LM4.out _ (atV_mem hlj))
                have HAT := Lib.hid (rowsOf_at hlj)
                generalize atV M4 j = xd at *
                obtain ⟨d1, d2, d3⟩ := xd
                dsimp only at hc HD HL2 HAT
                have NB : Hid (∀ b2, b2 = (b || decide (c2 = d2)) → b2 = decide (c2 ∈ (rowsOf M4).take (j + 1))) := Lib.hid (fun b2 h2 => by
                  have hg := (List.getElem?_eq_some_iff.1 HAT.out)
                  obtain ⟨hg1, hg3⟩ := hg
                  rw [h2, HB.out, List.take_succ_eq_append_getElem hg1, hg3]
                  by_cases e : c2 = d2
                  · subst e; simp
                  · simp [e])
                cases b
                · have ci := is_calls (ca := 1) (cb := 1) (M := [(c1, c2, c3)]) (T := [(d1, d2, d3)]) (w := (wr.alloc (.cells #[.slice c1 c2.length c3] 22)).alloc (.cells #[.slice d1 d2.length d3] 22)) (a := some ⟨wr.heap.size, 0, none⟩) (b := some ⟨wr.heap.size + 1, 0, none⟩) ((row_lit1 wr (c1, c2, c3) (HC.out wr HW.out)).below ((Below.refl _ _).alloc (Nat.le_refl _) _)) (by
                    have e1 : (wr.alloc (.cells #[.slice c1 c2.length c3] 22)).heap.size = wr.heap.size + 1 := by simp
                    have := row_lit1 (wr.alloc (.cells #[.slice c1 c2.length c3] 22)) (d1, d2, d3) ⟨HD.out.1.alloc _, HD.out.2⟩
                    rw [e1] at this
                    exact this) (by simp) (by simp) (by simp; exact HL1.out) (by simp; exact HL2.out)
                  rw [show decide (rowsOf [(c1, c2, c3)] = rowsOf [(d1, d2, d3)]) = decide (c2 = d2) from by simp [rowsOf]] at ci
                  simp only [List.length_cons, List.length_nil, Nat.zero_add] at ci
                  have N2 := NB.out (decide (c2 = d2)) (by simp)
                  have HN2 := Lib.hid N2
                  obtain ⟨bd, hbd⟩ : ∃ b, decide (c2 = d2) = b := ⟨_, rfl⟩
                  rw [hbd] at ci HN2
                  have HWA : Hid (Below w4.heap.size w4 ((wr.alloc (.cells #[.slice c1 c2.length c3] 22)).alloc (.cells #[.slice d1 d2.length d3] 22))) := Lib.hid ((HW.out.alloc HW.out.size _).alloc (by simp; have := HW.out.size; omega) _)
                  clear N2 NB HB hbd
                  go_wp2_with (first | (go_at_call 9; refine ci.mono ?_; rintro e w5 ⟨rfl, h3⟩; have HW5 := Lib.hid (HWA.out.trans (h3.mono HWA.out.size)); clear h3))
                  go_roundw
                  case rel => exact ⟨j + 1, _, by omega, by go_num, rfl, HW5, HN2⟩
                  case measure => simp [intOf]; omega
                · have N2 := Lib.hid (NB.out true (by simp))
                  clear NB HB
                  go_wp2_with fail
                  go_roundw
                  case rel => exact ⟨j + 1, true, by omega, by go_num, rfl, HW, N2⟩
                  case measure => simp [intOf]; omega
              · have hjN2 : j = N := by omega
                have hbt : b = true := by
                  rw [HB.out, List.take_of_length_le (by simp only [rowsOf, List.length_map]; rw [HN4.out]; omega)]
                  exact decide_eq_true HSUB.out
                subst hbt
                clear HB
                go_wp2_with fail
                go_roundw
                case rel => exact ⟨k + 1, by omega, by go_num, by rw [HFS.out, Int.natCast_add], HW⟩
                case measure => simp [intOf]; omega
          · obtain rfl : k = N := by omega
            have q8 : f k = i := FN.out
            have RET : Hid (Below w.heap.size w wr) := Lib.hid (BE4.out.trans (HW.out.mono BE4.out.size))
            clear HW
            go_wp2_with fail
            go_ret
            exact ⟨rfl, RET.out⟩
  · have q1 : decide ((100 : Int) < (ys.length : Int)) = true := decide_eq_true (by omega)
    go_wp2_with (first | (go_at_call 7; refine c1.mono ?_; rintro e w1 ⟨rfl, hb1⟩; have HB1 := Lib.hid hb1; clear hb1))
    go_ret
    exact ⟨rfl, HB1.out⟩
end Go.Proofs.Ytfpocoaddmgakaa
