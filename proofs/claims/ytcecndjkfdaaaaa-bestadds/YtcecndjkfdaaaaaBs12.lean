/- BestOrders, walked. Written by mkbs12.py. -/
import Derived.Test.YtcecndjkfdaaaaaBs11
import Derived.StillTailTactics
namespace Go.Proofs.Ytcecndjkfdaaaaa
open Go.RowKit Go.Maps
set_option linter.unusedVariables false
set_option linter.unusedSimpArgs false

theorem tmodN (i md : Nat) : (i : Int).tmod (md : Int) = ((i % md : Nat) : Int) := by rw [Int.tmod_eq_emod_of_nonneg (by omega)]; simp
theorem maskB (x : Int) (k : Nat) (hk : k ≤ 20) (y : Int) (hy : y = 2 ^ k - 1) : ∃ m : Nat, m < 2 ^ k ∧ bits .and .i64 x y = (m : Int) := by
  have hp : (2 : Nat) ^ k ≤ 2 ^ 20 := Nat.pow_le_pow_right (by omega) hk
  have hp1 : 1 ≤ (2 : Nat) ^ k := Nat.one_le_two_pow
  have hc : ((2 : Int) ^ k) = ((2 ^ k : Nat) : Int) := by simp
  have e : (BitVec.ofInt 64 y).toNat = 2 ^ k - 1 := by
    rw [ofInt_toNat, hy, hc]; omega
  refine ⟨(x % 18446744073709551616).toNat % 2 ^ k, Nat.mod_lt _ (by omega), ?_⟩
  show IntKind.i64.wrap ((BitVec.ofInt 64 x &&& BitVec.ofInt 64 y).toNat : Int) = _
  rw [BitVec.toNat_and, ofInt_toNat, e, Nat.and_two_pow_sub_one_eq_mod, IntKind.wrap_i64]
  have : (x % 18446744073709551616).toNat % 2 ^ k < 2 ^ k := Nat.mod_lt _ (by omega)
  omega
/-- The other one stays. -/
theorem BB.keeps {B : Nat} {w W W' : World} {N M : Nat → Prop} {g wd : Nat} {great : Bool} {es : List Ent} (h : BB B w W N g wd great es) (hk : Keeps M W W') (hd : ∀ k, N k → ¬ M k) (hb : Below B w W') (hs : B ≤ W'.heap.size) : BB B w W' N g wd great es := ⟨h.b.keeps hk hd, h.low, hb, hs⟩
theorem dj_new {P O : Nat → Prop} {W : World} {E : Nat} (h : ∀ k, P k → ¬ O k) (hl : ∀ k, O k → k < W.heap.size) : ∀ k, NN P W.heap.size E k → ¬ O k := fun k h1 h2 => by
  rcases h1 with h1 | h1
  · exact h k h1 h2
  · have := hl k h2; omega
/-- What the walks of best are told of rows that came in. -/
def BArgs (w : World) (a : Option Addr) (A : List RV) : Prop := NestArgs w a A ∧ ∀ x ∈ A, InRange x.2.1
set_option maxRecDepth 100000 in
set_option maxHeartbeats 8000000 in
theorem bestOrders_walk {w : World} {a : Option Addr} {A : List RV} (great : Bool) (cap : Nat) (at_ x y : Int) (hargs : BArgs w a A) :
    Calls Try.prog 10 #[.bool great, .slice a A.length cap, .int .i64 at_, .int .i64 x, .int .i64 y] w (TrueRet5 w) := by
  obtain ⟨B, hB⟩ : ∃ B, w.heap.size = B := ⟨_, rfl⟩
  have HB := Lib.hid hB
  have HN := Lib.hid hargs.1
  have RG := Lib.hid hargs.2
  have AR : Hid (∀ W, Below B w W → RRow W a A) := Lib.hid (fun W hb => hargs.1.1.belowB hB hb)
  have ML : Hid (∀ z ∈ A, z.2.1.length ≤ maxLen) := Lib.hid hargs.1.2.2
  have AL : Hid (∀ z ∈ A, ∀ p : Addr, z.1 = some p → 0 < z.2.1.length → p.block < B) := Lib.hid (fun z hz p hp h0 => by have := (hargs.1.1.2 z hz).1.lt h0 p hp; rw [hB] at this; exact this)
  obtain ⟨m, hm, em⟩ := maskB at_ 16 (by omega) 65535 (by decide)
  clear hB hargs
  go_enter Try.func10, Try.ntmps10
  go_wp2_with fail
  refine (head10_calls w).mono ?_
  rintro e W1 ⟨rfl, hb1⟩
  have B1 : Hid (Below B w W1) := Lib.hid (by rw [HB.out] at hb1; exact hb1)
  clear hb1
  go_wp2_with fail
  have cf := few_w (W := W1) cap HN.out HB.out B1.out
  cases hf : fewB A
  · rw [hf] at cf
    refine cf.mono ?_
    rintro e w' ⟨rfl, rfl⟩
    clear cf
    go_wp2_with fail
    go_ret
    exact ⟨rfl, by rw [HB.out]; exact B1.out⟩
  · rw [hf] at cf
    refine cf.mono ?_
    rintro e w' ⟨rfl, rfl⟩
    obtain ⟨hAl, hA8⟩ := few_ok hf
    clear cf hf hA8
    have hBW1 : B ≤ W1.heap.size := by have := B1.out.size; rw [HB.out] at this; exact this
    have cn : Calls Try.prog 26 #[.int .i64 2, .bool great] W1 _ := new_calls ((2 : Nat) : Int) great W1
    have H0 := Lib.hid (BB.new B1.out hBW1 2 great)
    go_wp2_with fail
    refine cn.mono ?_
    rintro e w' ⟨rfl, rfl⟩
    clear cn
    obtain ⟨ga, hga⟩ : ∃ g, W1.heap.size = g := ⟨_, rfl⟩
    rw [hga] at H0 ⊢
    have hgs : ∀ o : Obj, (W1.alloc o).heap.size = ga + 1 := fun o => by simp [hga]
    have GS := Lib.hid (hgs (.cells #[.int .i64 ((2 : Nat) : Int), .bool great, .slice none 0 0, .map none] 86))
    clear hga hgs hBW1
    generalize World.alloc W1 _ = W2 at *
    have cn : Calls Try.prog 26 #[.int .i64 2, .bool great] W2 _ := new_calls ((2 : Nat) : Int) great W2
    have H1 := Lib.hid (BB.new H0.out.bel H0.out.sz 2 great)
    have H0' := Lib.hid (H0.out.next ((Below.refl W2.heap.size W2).alloc (Nat.le_refl _) (.cells #[.int .i64 ((2 : Nat) : Int), .bool great, .slice none 0 0, .map none] 86)))
    go_wp2_with fail
    refine cn.mono ?_
    rintro e w' ⟨rfl, rfl⟩
    clear cn H0
    rw [GS.out] at H1 ⊢
    generalize World.alloc W2 _ = W3 at *
    obtain ⟨aN0, haN⟩ : ∃ P : Nat → Prop, P = (fun k => k = ga) := ⟨_, rfl⟩
    obtain ⟨bN0, hbN⟩ : ∃ P : Nat → Prop, P = (fun k => k = ga + 1) := ⟨_, rfl⟩
    rw [← haN] at H0'
    rw [← hbN] at H1
    have D0 : Hid (∀ k, aN0 k → ¬ bN0 k) := Lib.hid (fun k h1 h2 => by rw [haN] at h1; rw [hbN] at h2; omega)
    clear haN hbN
    obtain ⟨AA, hAA⟩ : ∃ AA, A.map (·.2.1) = AA := ⟨_, rfl⟩
    have LA : Hid (AA.length = A.length) := Lib.hid (by rw [← hAA]; simp)
    have RA : Hid (∀ i, i < A.length → rowAt AA i = (atV A i).2.1) := Lib.hid (fun i hi => by rw [← hAA]; simp [rowAt, atV, hi])
    clear hAA
    go_wp2_with fail
    go_loopw [31] (fun s wr => ∃ (i : Nat) (aN bN : Nat → Prop) (ea eb : List Ent), i ≤ A.length ∧ s = .int .i64 i ∧ ea.length ≤ i ∧ eb.length ≤ i ∧ Hid (BB B w wr aN ga 2 great ea) ∧ Hid (BB B w wr bN (ga + 1) 2 great eb) ∧ Hid (∀ k, aN k → ¬ bN k) ∧ Hid (BestIn great (entsA AA i) ea) ∧ Hid (BestIn great (entsS AA m i) eb)) (fun s _ => A.length - (intOf s).toNat)
    case atStart => exact ⟨0, aN0, bN0, [], [], Nat.zero_le _, rfl, by simp, by simp, H0', H1, D0, Lib.hid (by simpa [entsA] using BestIn.nil great), Lib.hid (by simpa [entsS, shR] using BestIn.nil great)⟩
    case round =>
      obtain ⟨i, aN, bN, ea, eb, hi, rfl, hea, heb, HA, HBb, DJ, BIa, BIb⟩ := hrel
      obtain ⟨X, rfl⟩ : ∃ x, x = wr := ⟨wr, rfl⟩
      by_cases hlt : i < A.length
      · have SA : Hid (entsA AA (i + 1) = entsA AA i ++ optL (entE (rowAt AA i))) := Lib.hid (entsA_succ (by rw [LA.out]; exact hlt))
        have SS0 := entsS_succ AA m i
        rw [LA.out] at SS0
        have hmx : max (A.length : Int) 1 = (A.length : Int) := by omega
        have er0 : ((i : Int) + (m : Int)).tmod (max (A.length : Int) 1) = (((i + m) % A.length : Nat) : Int) := by rw [hmx]; have := tmodN (i + m) A.length; simpa using this
        have hj0 : (i + m) % A.length < A.length := Nat.mod_lt _ (by omega)
        obtain ⟨j, hj9⟩ : ∃ j, (i + m) % A.length = j := ⟨_, rfl⟩
        rw [hj9] at SS0 er0 hj0
        have SS := Lib.hid SS0
        have er := er0
        have hj := hj0
        have hn0 : ((max (A.length : Int) 1) == 0) = false := by rw [beq_eq_false_iff_ne]; omega
        clear hmx
        clear SS0 er0 hj0 hj9
        by_cases ha3 : (atV A i).2.1.length = 3
        · obtain ⟨x0a, x1a, x2a, hxa⟩ := list3 ha3
          have HXa := Lib.hid hxa
          obtain ⟨tba, toa, htaa, _, htca, htra, htpa⟩ := (AR.out X HA.out.bel).at hlt
          cases htaa
          rw [hxa] at htca htra htpa
          simp only [List.length_cons, List.length_nil, Nat.zero_add, Nat.reduceAdd] at htca htpa
          have hrga : InRange [x0a, x1a] := fun z hz => by
            have h5 := RG.out _ (atV_mem hlt)
            rw [hxa] at h5
            refine h5 z ?_
            simp only [List.mem_cons, List.not_mem_nil, or_false] at hz ⊢
            rcases hz with h | h
            · exact .inl h
            · exact .inr (.inl h)
          obtain ⟨rba, roa, hraa, hrla, hrca, hr2a⟩ := row_three htra
          have bda : Below X.heap.size X X.drew := below_drewN (Below.refl _ X) 1
          have Voa := Lib.hid (HA.out.next bda)
          have Vta := Lib.hid (HBb.out.next bda)
          have R2a := Lib.hid (hr2a.below bda)
          have RNa : Hid (rba < B) := Lib.hid (AL.out _ (atV_mem hlt) ⟨rba, roa, none⟩ hraa (by rw [hxa]; simp))
          have EEa : Hid (entE (rowAt AA i) = some ([x0a, x1a], x2a)) := Lib.hid (by rw [RA.out _ hlt, hxa]; rfl)
          have HGa := Lib.hid hrga
          clear hr2a hxa htra bda hrga ha3
          generalize (atV A i).2.2 = rcapa at *
          have qc2a : (2 : Int) ≤ (rcapa : Int) := by omega
          have qc3a : ¬ rcapa = 0 := by omega
          rw [hraa] at htca R2a
          have cpa := bput_calls Voa.out.b (some ⟨rba, roa, none⟩) rcapa [x0a, x1a] x2a R2a.out (fun _ y hy hN => by cases hy; have h1 := RNa.out; have h2 := Voa.out.low _ hN; simp only at h2; omega) rfl HGa.out (by omega) (by omega)
          have PLa := put_len1 great ea [x0a, x1a] x2a
          go_wp2_with fail
          go_still_tail 6, (by kernel_rfl)
          change wpList _ _ _ _ _ X.drew
          generalize hVa : X.drew = Va at *
          clear hVa htca hrca hraa
          go_wp2_with fail
          refine cpa.mono ?_
          rintro e Ua ⟨rfl, hba, hka⟩
          have O2a := Lib.hid (Voa.out.put hba hka)
          have T2a := Lib.hid (Vta.out.keeps hka (fun k h1 h2 => DJ.out k h2 h1) O2a.out.bel O2a.out.sz)
          have D2a := Lib.hid (dj_new DJ.out Vta.out.b.lt (W := Va) (E := Ua.heap.size))
          have BI2a : Hid (BestIn great ((entsA AA i) ++ optL (entE (rowAt AA i))) (putE great ea [x0a, x1a] x2a)) := Lib.hid (by rw [EEa.out]; exact BIa.out.opt _ _)
          clear cpa hba hka Voa Vta R2a EEa HGa RNa HXa
          generalize putE great ea [x0a, x1a] x2a = e2a at *
          generalize putB great ea [x0a, x1a] x2a = pba at *
          generalize NN _ Va.heap.size Ua.heap.size = N2a at *
          have DXay : Hid (∀ k, _ → ¬ _) := Lib.hid (fun k h1 h2 => D2a.out k h2 h1)
          by_cases hayb3 : (atV A j).2.1.length = 3
          · obtain ⟨x0ayb, x1ayb, x2ayb, hxayb⟩ := list3 hayb3
            have HXayb := Lib.hid hxayb
            obtain ⟨tbayb, toayb, htaayb, _, htcayb, htrayb, htpayb⟩ := (AR.out Ua T2a.out.bel).at hj
            cases htaayb
            rw [hxayb] at htcayb htrayb htpayb
            simp only [List.length_cons, List.length_nil, Nat.zero_add, Nat.reduceAdd] at htcayb htpayb
            have hrgayb : InRange [x0ayb, x1ayb] := fun z hz => by
              have h5 := RG.out _ (atV_mem hj)
              rw [hxayb] at h5
              refine h5 z ?_
              simp only [List.mem_cons, List.not_mem_nil, or_false] at hz ⊢
              rcases hz with h | h
              · exact .inl h
              · exact .inr (.inl h)
            obtain ⟨rbayb, roayb, hraayb, hrlayb, hrcayb, hr2ayb⟩ := row_three htrayb
            have bdayb : Below Ua.heap.size Ua Ua.drew := below_drewN (Below.refl _ Ua) 1
            have Voayb := Lib.hid (T2a.out.next bdayb)
            have Vtayb := Lib.hid (O2a.out.next bdayb)
            have R2ayb := Lib.hid (hr2ayb.below bdayb)
            have RNayb : Hid (rbayb < B) := Lib.hid (AL.out _ (atV_mem hj) ⟨rbayb, roayb, none⟩ hraayb (by rw [hxayb]; simp))
            have EEayb : Hid (entE (rowAt AA j) = some ([x0ayb, x1ayb], x2ayb)) := Lib.hid (by rw [RA.out _ hj, hxayb]; rfl)
            have HGayb := Lib.hid hrgayb
            clear hr2ayb hxayb htrayb bdayb hrgayb hayb3
            generalize (atV A j).2.2 = rcapayb at *
            have qc2ayb : (2 : Int) ≤ (rcapayb : Int) := by omega
            have qc3ayb : ¬ rcapayb = 0 := by omega
            rw [hraayb] at htcayb R2ayb
            have cpayb := bput_calls Voayb.out.b (some ⟨rbayb, roayb, none⟩) rcapayb [x0ayb, x1ayb] x2ayb R2ayb.out (fun _ y hy hN => by cases hy; have h1 := RNayb.out; have h2 := Voayb.out.low _ hN; simp only at h2; omega) rfl HGayb.out (by omega) (by omega)
            have PLayb := put_len1 great eb [x0ayb, x1ayb] x2ayb
            go_wp2_with fail
            go_still_tail 6, (by kernel_rfl)
            change wpList _ _ _ _ _ Ua.drew
            generalize hVayb : Ua.drew = Vayb at *
            clear hVayb htcayb hrcayb hraayb
            go_wp2_with fail
            refine cpayb.mono ?_
            rintro e Uayb ⟨rfl, hbayb, hkayb⟩
            have O2ayb := Lib.hid (Voayb.out.put hbayb hkayb)
            have T2ayb := Lib.hid (Vtayb.out.keeps hkayb (fun k h1 h2 => DXay.out k h2 h1) O2ayb.out.bel O2ayb.out.sz)
            have D2ayb := Lib.hid (dj_new DXay.out Vtayb.out.b.lt (W := Vayb) (E := Uayb.heap.size))
            have BI2ayb : Hid (BestIn great ((entsS AA m i) ++ optL (entE (rowAt AA j))) (putE great eb [x0ayb, x1ayb] x2ayb)) := Lib.hid (by rw [EEayb.out]; exact BIb.out.opt _ _)
            clear cpayb hbayb hkayb Voayb Vtayb R2ayb EEayb HGayb RNayb HXayb
            generalize putE great eb [x0ayb, x1ayb] x2ayb = e2ayb at *
            generalize putB great eb [x0ayb, x1ayb] x2ayb = pbayb at *
            generalize NN _ Vayb.heap.size Uayb.heap.size = N2ayb at *
            go_wp2_with fail
            go_roundw
            case rel => exact ⟨i + 1, _, _, _, _, by omega, by go_num, by omega, by omega, T2ayb, O2ayb, Lib.hid (fun k h1 h2 => D2ayb.out k h2 h1), Lib.hid (by rw [SA.out]; exact BI2a.out), Lib.hid (by rw [SS.out]; exact BI2ayb.out)⟩
            case measure => simp [intOf]; omega
          · have t3ayb : (((atV A j).2.1.length : Int) == 3) = false := by rw [beq_eq_false_iff_ne]; omega
            obtain ⟨tbayb, toayb, htaayb, _, htcayb, htrayb, htpayb⟩ := (AR.out Ua T2a.out.bel).at hj
            cases htaayb
            have BI2ayb : Hid (BestIn great ((entsS AA m i) ++ optL (entE (rowAt AA j))) eb) := Lib.hid (by
              have : entE (rowAt AA j) = none := by rw [RA.out _ hj]; exact if_neg hayb3
              rw [this]; simpa [optL] using BIb.out)
            have hmlayb := ML.out _ (atV_mem hj)
            clear hayb3 htrayb htpayb
            generalize (atV A j).2.1.length = rlenayb at *
            go_wp2_with fail
            go_roundw
            case rel => exact ⟨i + 1, _, _, _, _, by omega, by go_num, by omega, by omega, O2a, T2a, Lib.hid (fun k h1 h2 => DXay.out k h2 h1), Lib.hid (by rw [SA.out]; exact BI2a.out), Lib.hid (by rw [SS.out]; exact BI2ayb.out)⟩
            case measure => simp [intOf]; omega
        · have t3a : (((atV A i).2.1.length : Int) == 3) = false := by rw [beq_eq_false_iff_ne]; omega
          obtain ⟨tba, toa, htaa, _, htca, htra, htpa⟩ := (AR.out X HA.out.bel).at hlt
          cases htaa
          have BI2a : Hid (BestIn great ((entsA AA i) ++ optL (entE (rowAt AA i))) ea) := Lib.hid (by
            have : entE (rowAt AA i) = none := by rw [RA.out _ hlt]; exact if_neg ha3
            rw [this]; simpa [optL] using BIa.out)
          have hmla := ML.out _ (atV_mem hlt)
          clear ha3 htra htpa
          generalize (atV A i).2.1.length = rlena at *
          have DXan : Hid (∀ k, _ → ¬ _) := Lib.hid (fun k h1 h2 => DJ.out k h2 h1)
          by_cases hanb3 : (atV A j).2.1.length = 3
          · obtain ⟨x0anb, x1anb, x2anb, hxanb⟩ := list3 hanb3
            have HXanb := Lib.hid hxanb
            obtain ⟨tbanb, toanb, htaanb, _, htcanb, htranb, htpanb⟩ := (AR.out X HBb.out.bel).at hj
            cases htaanb
            rw [hxanb] at htcanb htranb htpanb
            simp only [List.length_cons, List.length_nil, Nat.zero_add, Nat.reduceAdd] at htcanb htpanb
            have hrganb : InRange [x0anb, x1anb] := fun z hz => by
              have h5 := RG.out _ (atV_mem hj)
              rw [hxanb] at h5
              refine h5 z ?_
              simp only [List.mem_cons, List.not_mem_nil, or_false] at hz ⊢
              rcases hz with h | h
              · exact .inl h
              · exact .inr (.inl h)
            obtain ⟨rbanb, roanb, hraanb, hrlanb, hrcanb, hr2anb⟩ := row_three htranb
            have bdanb : Below X.heap.size X X.drew := below_drewN (Below.refl _ X) 1
            have Voanb := Lib.hid (HBb.out.next bdanb)
            have Vtanb := Lib.hid (HA.out.next bdanb)
            have R2anb := Lib.hid (hr2anb.below bdanb)
            have RNanb : Hid (rbanb < B) := Lib.hid (AL.out _ (atV_mem hj) ⟨rbanb, roanb, none⟩ hraanb (by rw [hxanb]; simp))
            have EEanb : Hid (entE (rowAt AA j) = some ([x0anb, x1anb], x2anb)) := Lib.hid (by rw [RA.out _ hj, hxanb]; rfl)
            have HGanb := Lib.hid hrganb
            clear hr2anb hxanb htranb bdanb hrganb hanb3
            generalize (atV A j).2.2 = rcapanb at *
            have qc2anb : (2 : Int) ≤ (rcapanb : Int) := by omega
            have qc3anb : ¬ rcapanb = 0 := by omega
            rw [hraanb] at htcanb R2anb
            have cpanb := bput_calls Voanb.out.b (some ⟨rbanb, roanb, none⟩) rcapanb [x0anb, x1anb] x2anb R2anb.out (fun _ y hy hN => by cases hy; have h1 := RNanb.out; have h2 := Voanb.out.low _ hN; simp only at h2; omega) rfl HGanb.out (by omega) (by omega)
            have PLanb := put_len1 great eb [x0anb, x1anb] x2anb
            go_wp2_with fail
            go_still_tail 6, (by kernel_rfl)
            change wpList _ _ _ _ _ X.drew
            generalize hVanb : X.drew = Vanb at *
            clear hVanb htcanb hrcanb hraanb
            go_wp2_with fail
            refine cpanb.mono ?_
            rintro e Uanb ⟨rfl, hbanb, hkanb⟩
            have O2anb := Lib.hid (Voanb.out.put hbanb hkanb)
            have T2anb := Lib.hid (Vtanb.out.keeps hkanb (fun k h1 h2 => DXan.out k h2 h1) O2anb.out.bel O2anb.out.sz)
            have D2anb := Lib.hid (dj_new DXan.out Vtanb.out.b.lt (W := Vanb) (E := Uanb.heap.size))
            have BI2anb : Hid (BestIn great ((entsS AA m i) ++ optL (entE (rowAt AA j))) (putE great eb [x0anb, x1anb] x2anb)) := Lib.hid (by rw [EEanb.out]; exact BIb.out.opt _ _)
            clear cpanb hbanb hkanb Voanb Vtanb R2anb EEanb HGanb RNanb HXanb
            generalize putE great eb [x0anb, x1anb] x2anb = e2anb at *
            generalize putB great eb [x0anb, x1anb] x2anb = pbanb at *
            generalize NN _ Vanb.heap.size Uanb.heap.size = N2anb at *
            go_wp2_with fail
            go_roundw
            case rel => exact ⟨i + 1, _, _, _, _, by omega, by go_num, by omega, by omega, T2anb, O2anb, Lib.hid (fun k h1 h2 => D2anb.out k h2 h1), Lib.hid (by rw [SA.out]; exact BI2a.out), Lib.hid (by rw [SS.out]; exact BI2anb.out)⟩
            case measure => simp [intOf]; omega
          · have t3anb : (((atV A j).2.1.length : Int) == 3) = false := by rw [beq_eq_false_iff_ne]; omega
            obtain ⟨tbanb, toanb, htaanb, _, htcanb, htranb, htpanb⟩ := (AR.out X HBb.out.bel).at hj
            cases htaanb
            have BI2anb : Hid (BestIn great ((entsS AA m i) ++ optL (entE (rowAt AA j))) eb) := Lib.hid (by
              have : entE (rowAt AA j) = none := by rw [RA.out _ hj]; exact if_neg hanb3
              rw [this]; simpa [optL] using BIb.out)
            have hmlanb := ML.out _ (atV_mem hj)
            clear hanb3 htranb htpanb
            generalize (atV A j).2.1.length = rlenanb at *
            go_wp2_with fail
            go_roundw
            case rel => exact ⟨i + 1, _, _, _, _, by omega, by go_num, by omega, by omega, HA, HBb, Lib.hid (fun k h1 h2 => DXan.out k h2 h1), Lib.hid (by rw [SA.out]; exact BI2a.out), Lib.hid (by rw [SS.out]; exact BI2anb.out)⟩
            case measure => simp [intOf]; omega
      · have tl : decide (i < A.length) = false := decide_eq_false hlt
        obtain rfl : i = A.length := by omega
        have SAME : Hid (∀ k, lookE ea k = lookE eb k) := Lib.hid (BestIn.same BIa.out BIb.out (fun e => by have := ents_same AA m e; rw [LA.out] at this; exact this))
        have RS : Hid (relOf ((2 + 1 : Nat) : Int) (ea.map rowE) = relOf ((2 + 1 : Nat) : Int) (eb.map rowE)) := Lib.hid (rel_same HA.out.b.ok.dist HBb.out.b.ok.dist SAME.out)
        have LS : Hid (ea.length = eb.length) := Lib.hid (len_same HA.out.b.ok HBb.out.b.ok SAME.out)
        have hrl : Hid ((relOf ((2 + 1 : Nat) : Int) (eb.map rowE)).length ≤ 1000) := Lib.hid (by have h8 := rel_len ((2 + 1 : Nat) : Int) (eb.map rowE); rw [List.length_map] at h8; omega)
        have s1 := bseg_calls HA.out.b (by omega) (by omega)
        rw [RS.out] at s1
        obtain ⟨rs, hrs⟩ : ∃ rs, relOf ((2 + 1 : Nat) : Int) (eb.map rowE) = rs := ⟨_, rfl⟩
        have RSB := Lib.hid hrs
        rw [hrs] at s1 hrl
        clear hrs
        go_wp2_with fail
        refine s1.mono ?_
        rintro e Y ⟨p1, rfl, hl1, hb1⟩
        have HA1 := Lib.hid (HA.out.next hb1)
        have HB1 := Lib.hid (HBb.out.next hb1)
        have G1 := Lib.hid (hl1 Y (Later.refl _ _))
        clear s1 hl1 hb1 HA HBb
        have s2 := bseg_calls HB1.out.b (by omega) (by omega)
        rw [RSB.out] at s2
        go_wp2_with fail
        refine s2.mono ?_
        rintro e Z ⟨p2, rfl, hl2, hb2⟩
        have HA2 := Lib.hid (HA1.out.next hb2)
        have HB2 := Lib.hid (HB1.out.next hb2)
        have G2 := Lib.hid (G1.out.below hb2)
        have G3 := Lib.hid (hl2 Z (Later.refl _ _))
        clear s2 hl2 hb2 HA1 HB1 G1
        have sm := segSame_calls G2.out G3.out (by have := hrl.out; omega) (by have := hrl.out; omega) (by omega) (by omega)
        rw [show decide (rs = rs) = true by simp] at sm
        go_wp2_with fail
        refine sm.mono ?_
        rintro e w9 ⟨rfl, q9, rfl⟩
        have HA3 := Lib.hid (HA2.out.next (below_drewN (Below.refl Z.heap.size Z) q9))
        have HB3 := Lib.hid (HB2.out.next (below_drewN (Below.refl Z.heap.size Z) q9))
        clear sm HA2 HB2 G2 G3
        generalize Z.drewN q9 = Z2 at *
        have l1 := HA3.out.len
        have l2 := HB3.out.len
        rw [LS.out] at l1
        obtain ⟨La, tva, mva, hSa⟩ := HA3.out.b
        have bc := better_calls (w := Z2) hSa.c.2.1 x y
        have bl := better_law great x y Z2
        clear hSa
        go_wp2_with fail
        refine l1.mono ?_
        rintro e w' ⟨rfl, rfl⟩
        go_wp2_with fail
        refine l2.mono ?_
        rintro e w' ⟨rfl, rfl⟩
        generalize betterB great x y = bxy at *
        go_wp2_with fail
        refine bc.mono ?_
        rintro e w' ⟨rfl, rfl⟩
        go_wp2_with fail
        refine bl.mono ?_
        rintro e w' ⟨rfl, rfl⟩
        cases bxy
        · go_wp2_with fail
          go_ret
          exact ⟨rfl, by rw [HB.out]; exact HA3.out.bel⟩
        · go_wp2_with fail
          go_ret
          exact ⟨rfl, by rw [HB.out]; exact HA3.out.bel⟩
end Go.Proofs.Ytcecndjkfdaaaaa
