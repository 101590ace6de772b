/- join's partners. -/
import Derived.Test.YtcecndjkfdaaaaaJn12
namespace Go.Proofs.Ytcecndjkfdaaaaa
open Go.RowKit Go.Shelf
set_option linter.unusedVariables false
set_option linter.unusedSimpArgs false

def lenW : Value → Nat | .slice _ n _ => n | _ => 0
structure PS (g n : Nat) (kas kbs : List (List Int)) (w : World) (LB : List KE) (wr : World) (x1 x2 : Option Addr) (l r : List KE) (F : List KS) : Prop where
  pm : PM g n wr x1 x2 l r F
  fd : FD n kas kbs l F
  lk : LK n kas l
  a1 : AscK l
  a2 : AscK r
  mi : MInv LB l r
  l1 : ∀ x ∈ l, x.1.2.1.length ≤ 1000
  l2 : ∀ x ∈ r, x.1.2.1.length ≤ 1000
  bel : Below g w wr
theorem own_base {W : World} {B t k n : Nat} {a : Option Addr} {m c : Nat} {xs : List Value} (h : W.ownsRow B t k (.slice a m c) n xs) {g : Nat} (hg : g < B) : ∀ q, a = some q → q.block ≠ g := by
  rintro q rfl
  rcases h.2 with ⟨e, _⟩ | ⟨g', cap, cur, e, hb, _⟩
  · cases e
  · cases e; simp; omega
theorem own_cap {W : World} {B t k n : Nat} {a : Option Addr} {m c : Nat} {xs : List Value} (h : W.ownsRow B t k (.slice a m c) n xs) : m ≤ c := by
  rcases h.2 with ⟨e, _⟩ | ⟨g', cap, cur, e, hb, _, h1, _⟩
  · cases e; exact Nat.le_refl _
  · cases e; exact h1
theorem keyed_len {L : List KE} {rs : List (List Int)} {keys : List Int} (hp : (toK L).Perm (keysTo rs keys rs.length)) (hk : keys.length ≤ 1000) : ∀ x ∈ L, x.1.2.1.length ≤ 1000 := by
  intro x hx
  obtain ⟨i, hi, e⟩ := keysTo_mem (hp.mem_iff.1 (List.mem_map.2 ⟨x, hx, rfl⟩))
  have h1 := (Prod.ext_iff.1 e).1
  simp only at h1
  rw [h1]
  have := keyL_len (rowAt rs i) keys
  omega
theorem krow_cut {W : World} {b o o' d k : Nat} {l : List KE} (h : KRow W (some ⟨b, o, none⟩) l) (hd : l.length ≤ d) (ho : o' = o + k * 2) : KRow W (if d = k then some ⟨b, o, none⟩ else some ⟨b, o', none⟩) (l.drop k) := by
  by_cases e : d = k
  · rw [if_pos e, List.drop_eq_nil_of_le (by omega)]; exact ⟨.inl rfl, fun x hx => by cases hx⟩
  · rw [if_neg e, ho]; exact h.drop k
theorem ne_cut {b o o' d k g : Nat} (h : ∀ q, (some ⟨b, o, none⟩ : Option Addr) = some q → q.block ≠ g) : ∀ q, (if d = k then some ⟨b, o, none⟩ else some ⟨b, o', none⟩ : Option Addr) = some q → q.block ≠ g := by
  intro q hq
  have hb := h _ rfl
  by_cases e : d = k
  · rw [if_pos e] at hq; cases hq; exact hb
  · rw [if_neg e] at hq; cases hq; exact hb
theorem PS.drewN {g n : Nat} {kas kbs : List (List Int)} {w : World} {LB : List KE} {wr : World} {x1 x2 : Option Addr} {l r : List KE} {F : List KS} (h : PS g n kas kbs w LB wr x1 x2 l r F) (q : Nat) : PS g n kas kbs w LB (wr.drewN q) x1 x2 l r F :=
  ⟨h.pm.drewN q, h.fd, h.lk, h.a1, h.a2, h.mi, h.l1, h.l2, below_drewN h.bel q⟩
theorem PS.stepL {g n : Nat} {kas kbs : List (List Int)} {w : World} {LB : List KE} {wr : World} {b o d : Nat} {x2 : Option Addr} {l r : List KE} {F : List KS} (h : PS g n kas kbs w LB wr (some ⟨b, o, none⟩) x2 l r F) (hB : ∀ κ, numsOf LB κ = rowsOf kbs κ) (h1 : 0 < l.length) (h2 : 0 < r.length) (hc : cmpR (atK l 0).1.2.1 (atK r 0).1.2.1 < 0) (hd : l.length ≤ d) (q : Nat) :
    PS g n kas kbs w LB (wr.drewN q) (if d = 1 then some ⟨b, o, none⟩ else some ⟨b, o + 2, none⟩) x2 (l.drop 1) r F := by
  have h' := h.drewN q
  match l, r, h1, h2 with
  | x :: l', y :: r', _, _ =>
    have hm := minv_lt h.mi h.a2 hc
    exact ⟨⟨h'.pm.own, krow_cut h'.pm.k1 hd (by omega), h'.pm.k2, ne_cut h'.pm.n1, h'.pm.n2, h'.pm.fk⟩, FD.lt (y := x) (r := []) h.fd h.lk hB hm.1, fun z hz => h.lk z (List.mem_cons_of_mem _ hz), (List.pairwise_cons.1 h.a1).2, h.a2, hm.2, fun z hz => h.l1 z (List.mem_cons_of_mem _ hz), h.l2, h'.bel⟩
theorem PS.stepR {g n : Nat} {kas kbs : List (List Int)} {w : World} {LB : List KE} {wr : World} {b o d : Nat} {x1 : Option Addr} {l r : List KE} {F : List KS} (h : PS g n kas kbs w LB wr x1 (some ⟨b, o, none⟩) l r F) (h1 : 0 < l.length) (h2 : 0 < r.length) (hc : 0 < cmpR (atK l 0).1.2.1 (atK r 0).1.2.1) (hd : r.length ≤ d) (q : Nat) :
    PS g n kas kbs w LB (wr.drewN q) x1 (if d = 1 then some ⟨b, o, none⟩ else some ⟨b, o + 2, none⟩) l (r.drop 1) F := by
  have h' := h.drewN q
  match l, r, h1, h2 with
  | x :: l', y :: r', _, _ =>
    have hm := minv_gt h.mi h.a1 hc
    exact ⟨⟨h'.pm.own, h'.pm.k1, krow_cut h'.pm.k2 hd (by omega), h'.pm.n1, ne_cut h'.pm.n2, h'.pm.fk⟩, h.fd, h.lk, h.a1, (List.pairwise_cons.1 h.a2).2, hm, h.l1, fun z hz => h.l2 z (List.mem_cons_of_mem _ hz), h'.bel⟩
/-- While the rows of one key get their partners. -/
def PK (g n : Nat) (kas kbs : List (List Int)) (w X : World) (x1 x2 : Option Addr) (l r : List KE) (k : Nat) (F : List KS) : Prop := PM g n X x1 x2 l r F ∧ FD n kas kbs (l.drop k) F ∧ Below g w X
theorem PK.step {g n : Nat} {kas kbs : List (List Int)} {w X : World} {x1 x2 : Option Addr} {l r : List KE} {k : Nat} {F : List KS} (h : PK g n kas kbs w X x1 x2 l r k F) {LB : List KE} (hlk : LK n kas l) (hB : ∀ κ, numsOf LB κ = rowsOf kbs κ) (hkl : k < l.length) (m d : Nat) (hr : r.length ≤ 1000) (he : numsOf LB (atK l k).1.2.1 = (r.take m).map fun y => y.2) (ob : Obj) (hg : g < X.heap.size) :
    PK g n kas kbs w ((X.setCell ⟨g, (atK l k).2, none⟩ (encS (x2, r.take m, d))).alloc ob).drew x1 x2 l r (k + 1) (F.set (atK l k).2 (x2, r.take m, d)) := by
  have hp := h.1
  have hs := ((hp.store (atK l k).2 (x2, r.take m, d) ⟨hp.k2.take m, hp.n2, by simp only [List.length_take]; omega⟩).alloc ob).drewN 1
  refine ⟨hs, h.2.1.fill h.1.own.len hkl hlk hB he, ?_⟩
  have hb := h.2.2
  have hb2 : Below g w (X.setCell ⟨g, (atK l k).2, none⟩ (encS (x2, r.take m, d))) := ⟨hb.os, hb.tape, hb.output, by simpa [World.setCell] using hb.size, fun j hj => by rw [Below.heap_setCell _ _ _ _ (by simp; omega)]; exact hb.block j hj⟩
  exact below_drewN (hb2.alloc (by simp [World.setCell]; omega) ob) 1
theorem PK.fin {g n : Nat} {kas kbs : List (List Int)} {w X W4 : World} {b1 o1 b2 o2 d1 d2 : Nat} {l r : List KE} {n1 m1 : Nat} {F F0 : List KS} {LB : List KE} (h : PK g n kas kbs w X (some ⟨b1, o1, none⟩) (some ⟨b2, o2, none⟩) l r n1 F) (h0 : PS g n kas kbs w LB W4 (some ⟨b1, o1, none⟩) (some ⟨b2, o2, none⟩) l r F0) (hm : MInv LB (l.drop n1) (r.drop m1)) (hd1 : l.length ≤ d1) (hd2 : r.length ≤ d2) (q p1 p2 : Nat) (hp1 : p1 = o1 + n1 * 2) (hp2 : p2 = o2 + m1 * 2) :
    PS g n kas kbs w LB (X.drewN q) (if d1 = n1 then some ⟨b1, o1, none⟩ else some ⟨b1, p1, none⟩) (if d2 = m1 then some ⟨b2, o2, none⟩ else some ⟨b2, p2, none⟩) (l.drop n1) (r.drop m1) F := by
  have hp := h.1.drewN q
  exact ⟨⟨hp.own, krow_cut hp.k1 hd1 hp1, krow_cut hp.k2 hd2 hp2, ne_cut hp.n1, ne_cut hp.n2, hp.fk⟩, h.2.1, fun z hz => h0.lk z (List.mem_of_mem_drop hz), List.Pairwise.drop h0.a1, List.Pairwise.drop h0.a2, hm, fun z hz => h0.l1 z (List.mem_of_mem_drop hz), fun z hz => h0.l2 z (List.mem_of_mem_drop hz), below_drewN h.2.2 q⟩
set_option maxRecDepth 100000 in
set_option maxHeartbeats 4000000 in
theorem partners_calls {w : World} {p o : Option Addr} {w1 w2 : Nat} {rs ss : List (List Int)} (hS : Seg w p w1 rs) (hT : Seg w o w2 ss) (a b : Option Addr) (ca cb : Nat) (ka kb : List Int) (hka : Row w a ka) (hkb : Row w b kb) (hal : ka.length ≤ 1000) (hbl : kb.length ≤ 1000) (hw1 : w1 ≤ 1000) (hw2 : w2 ≤ 1000) (hrs : rs.length ≤ 1000) (hss : ss.length ≤ 1000) :
    Calls Try.prog 45 #[.pointer p, .pointer o, .slice a ka.length ca, .slice b kb.length cb] w (PartRet w (rs.map fun r => keyL r ka) (ss.map fun r => keyL r kb)) := by
  obtain ⟨i0, hi0, hz0, hz1, hz2⟩ := info_parts info76
  have I := Lib.hid hi0
  have Z0 := Lib.hid hz0
  have Z1 := Lib.hid hz1
  have Z2 := Lib.hid hz2
  obtain ⟨B, hB⟩ : ∃ B, w.heap.size = B := ⟨_, rfl⟩
  have HB := Lib.hid hB
  have HS := Lib.hid hS
  have HT := Lib.hid hT
  have HA := Lib.hid hka
  have HBk := Lib.hid hkb
  have cl := segLen_calls hS
  have EA : Hid (∀ L, (toK L).Perm (keysTo rs ka rs.length) → (toK L).Perm ((List.range rs.length).map fun i => (kyAt (rs.map fun r => keyL r ka) i, i))) := Lib.hid (fun L h => by rw [keysTo_range, List.length_map] at h; exact h)
  have EB : Hid (∀ L, (toK L).Perm (keysTo ss kb ss.length) → AscK L → ∀ κ, numsOf L κ = rowsOf (ss.map fun r => keyL r kb) κ) := Lib.hid (fun L h h2 => by rw [keysTo_range] at h; exact numsOf_rows h h2)
  have LKK : Hid ((rs.map fun r => keyL r ka).length = rs.length) := Lib.hid (by simp)
  generalize (rs.map fun r => keyL r ka) = kas at *
  generalize (ss.map fun r => keyL r kb) = kbs at *
  clear hi0 hz0 hz1 hz2 hB hS hT hka hkb
  go_enter Try.func45, Try.ntmps45
  go_wp2_with fail
  refine cl.mono ?_
  rintro e w' ⟨rfl, rfl⟩
  clear cl
  go_wp2_with (first | (refine wpList_make_full _ rfl (.tmp 18) (.tmp 18) 74 rfl B 76 i0 (.slice none 0 0) 1 Try.underlying74 I.out Z0.out Z1.out .i64 .i64 _ _ rs.length rfl rfl ?m0 ?m1 ?m2 ?m3 ?m4 ?_))
  case m0 => rfl
  case m1 => rfl
  case m2 => rw [Z2.out]; omega
  case m3 => unfold maxLen; omega
  case m4 => rw [HB.out]; omega
  intro W1 hown hgrow
  have B1 := Lib.hid ((Below.refl B w).grown hgrow (by rw [HB.out]; omega) (fun k e => by cases e))
  rw [HB.out] at hown ⊢
  have O1 := Lib.hid (found_new hown)
  clear hown hgrow
  obtain ⟨C, hC⟩ : ∃ C, W1.heap.size = C := ⟨_, rfl⟩
  have HC := Lib.hid hC
  have hBC : Hid (B < C) := Lib.hid (by
    rcases O1.out.2 with ⟨e, _⟩ | ⟨g', cap, cur, e, _, hh, _⟩
    · cases e
    · cases e; rw [← hC]; exact (Array.getElem?_eq_some_iff.1 hh).1)
  clear hC
  have c1 := byKey_calls sortK (HS.out.belowB HB.out B1.out) a ca ka (HA.out.belowB HB.out B1.out) hal hw1 hrs
  go_wp2_with fail
  refine c1.mono ?_
  rintro e W2 ⟨g1, b51, y1, z1, LA, hg1, rfl, ho1, hr1, hp1, hs1, hb1⟩
  clear c1
  have B2 := Lib.hid (B1.out.trans (hb1.mono (by rw [HC.out]; have := hBC.out; omega)))
  have c2 := byKey_calls sortK (HT.out.belowB HB.out B2.out) b cb kb (HBk.out.belowB HB.out B2.out) hbl hw2 hss
  have LL1 : Hid (LA.length = rs.length) := Lib.hid (by have := hp1.length_eq; rw [toK_len, keysTo_len] at this; exact this)
  have K1 := Lib.hid (krow_of_owns ho1 hr1)
  have N1 := Lib.hid (own_base ho1 (g := B) (by rw [HC.out] at hg1; have := hBC.out; omega))
  have Q1 := own_cap ho1
  have P1 := Lib.hid hp1
  have S1 := Lib.hid hs1
  have E1 := Lib.hid hb1
  have G1 := Lib.hid hg1
  clear ho1 hr1 hp1 hs1 hb1 hg1
  go_wp2_with fail
  refine c2.mono ?_
  rintro e W3 ⟨g2, b52, y2, z2, LB, hg2, rfl, ho2, hr2, hp2, hs2, hb2⟩
  clear c2
  have LL2 : Hid (LB.length = ss.length) := Lib.hid (by have := hp2.length_eq; rw [toK_len, keysTo_len] at this; exact this)
  have hs12 : C ≤ W2.heap.size := by have := E1.out.size; rw [HC.out] at this; exact this
  have B3 : Hid (Below B w W3) := Lib.hid (B2.out.trans (hb2.mono (by have := hBC.out; omega)))
  have Q2 := own_cap ho2
  have HNB : Hid (∀ κ, numsOf LB κ = rowsOf kbs κ) := Lib.hid (EB.out LB hp2 hs2)
  have PA := Lib.hid (EA.out LA P1.out)
  have ST : Hid (PS B rs.length kas kbs w LB W3 y1 y2 LA LB (List.replicate rs.length ((none, [], 0) : KS))) := Lib.hid
    ⟨⟨owns_keeps (N := fun _ => False) (owns_keeps (N := fun _ => False) O1.out (Keeps.of_below E1.out) (fun _ _ h => h)) (Keeps.of_below hb2) (fun _ _ h => h), K1.out.below hb2, krow_of_owns ho2 hr2, N1.out, own_base ho2 (g := B) (by have := hBC.out; omega), fun x hx => by rw [(List.mem_replicate.1 hx).2]; exact ⟨⟨.inl rfl, fun y hy => by cases hy⟩, (fun q hq => by cases hq), Nat.zero_le _⟩⟩,
      fd_new PA.out, lk_new PA.out, S1.out, hs2, fun x _ => rfl, keyed_len P1.out hal, keyed_len hp2 hbl, B3.out⟩
  have hl1 : LA.length ≤ 1000 := by have := LL1.out; omega
  have hl2 : LB.length ≤ 1000 := by have := LL2.out; omega
  clear ho2 hr2 hp2 hs2 hb2 hg2 hs12 K1 N1 P1 S1 E1 G1 B1 B2 O1 HC HS HT HA HBk PA EA EB LL1 LL2 B3 hBC
  go_wp2_with fail
  go_loopw [10, 11] (fun s t wr => ∃ (l r : List KE) (x1 x2 : Option Addr) (d1 d2 : Nat) (F : List KS), s = .slice x1 l.length d1 ∧ t = .slice x2 r.length d2 ∧ l.length ≤ d1 ∧ r.length ≤ d2 ∧ l.length ≤ 1000 ∧ r.length ≤ 1000 ∧ Hid (PS B rs.length kas kbs w LB wr x1 x2 l r F)) (fun s t _ => lenW s + lenW t)
  case atStart => exact ⟨LA, LB, y1, y2, z1, z2, _, rfl, rfl, Q1, Q2, hl1, hl2, ST⟩
  case round =>
    obtain ⟨l, r, x1, x2, d1, d2, F, rfl, rfl, hd1, hd2, hll, hrl, HP⟩ := hrel
    by_cases h1 : 0 < l.length
    · by_cases h2 : 0 < r.length
      · obtain ⟨b1, o1, rfl, hb1, hc1⟩ : ∃ b off, x1 = some ⟨b, off, none⟩ ∧ b < wr.heap.size ∧ wr.cell? ⟨b, off, none⟩ = some (.slice (atK l 0).1.1 (atK l 0).1.2.1.length (atK l 0).1.2.2) := by
          rcases HP.out.pm.k1.1 with rfl | ⟨b, off, e, h3, h4⟩
          · simp at h1
          · exact ⟨b, off, e, h3, by have := (h4 0 h1).1; rwa [Nat.zero_mul, Nat.add_zero] at this⟩
        obtain ⟨b2, o2, rfl, hb2, hc2⟩ : ∃ b off, x2 = some ⟨b, off, none⟩ ∧ b < wr.heap.size ∧ wr.cell? ⟨b, off, none⟩ = some (.slice (atK r 0).1.1 (atK r 0).1.2.1.length (atK r 0).1.2.2) := by
          rcases HP.out.pm.k2.1 with rfl | ⟨b, off, e, h3, h4⟩
          · simp at h2
          · exact ⟨b, off, e, h3, by have := (h4 0 h2).1; rwa [Nat.zero_mul, Nat.add_zero] at this⟩
        have ck : ∀ m, Calls Try.prog 48 #[.slice (atK l 0).1.1 (atK l 0).1.2.1.length (atK l 0).1.2.2, .slice (atK r 0).1.1 (atK r 0).1.2.1.length (atK r 0).1.2.2] (wr.drewN m) (Quiet (.int .i64 (cmpS (atK l 0).1.2.1 (atK r 0).1.2.1)) (wr.drewN m)) := fun m =>
          (compare_calls _ _ _ _ _ _ _ ((HP.out.pm.k1.2 _ (atK_mem h1)).1.drewN m) ((HP.out.pm.k2.2 _ (atK_mem h2)).1.drewN m) (by have := HP.out.l1 _ (atK_mem h1); omega) (by have := HP.out.l2 _ (atK_mem h2); omega)).mono (fun e w9 h => ⟨h.1, 0, h.2.symm⟩)
        have g1 : decide ((0 : Int) < (l.length : Int)) = true := decide_eq_true (by omega)
        have g2 : decide ((0 : Int) < (r.length : Int)) = true := decide_eq_true (by omega)
        have H1 := Lib.hid h1
        have H2 := Lib.hid h2
        generalize hk1 : (atK l 0).1.2.1.length = m1 at *
        generalize hk2 : (atK r 0).1.2.1.length = m2 at *
        clear hk1 hk2
        rcases cmpR_tri (atK l 0).1.2.1 (atK r 0).1.2.1 with hc | hc | hc
        · rw [show cmpS (atK l 0).1.2.1 (atK r 0).1.2.1 = -1 by simp [cmpS, hc]] at ck
          have HCm := Lib.hid hc
          clear hc
          go_wp2_with fail
          go_quiet ((exact Calls.quiet_of (ck _)))
          rename_i qd
          go_wp2_with fail
          go_roundw
          case rel => exact ⟨l.drop 1, r, _, _, d1 - 1, d2, F, by rw [List.length_drop], rfl, by rw [List.length_drop]; omega, hd2, by rw [List.length_drop]; omega, hrl, Lib.hid (HP.out.stepL HNB.out H1.out H2.out HCm.out hd1 _)⟩
          case measure => simp only [lenW]; have := H1.out; omega
        · rw [show cmpS (atK l 0).1.2.1 (atK r 0).1.2.1 = 0 by simp [cmpS, hc, cmpR_self]] at ck
          have HCm := Lib.hid hc
          clear hc
          go_wp2_with fail
          go_quiet ((exact Calls.quiet_of (ck _)))
          rename_i qd
          go_wp2_with fail
          have HP2 := Lib.hid (HP.out.drewN nq)
          generalize wr.drewN nq = V1 at *
          refine (sameKey_calls HP2.out.pm.k1 H1.out (by omega) (fun x hx => by have := HP2.out.l1 x hx; omega)).mono ?_
          rintro e w9 ⟨n1, rfl, hn1, q1, rfl⟩
          have HP3 := Lib.hid (HP2.out.drewN q1)
          have HN1 := Lib.hid hn1
          have n11 : 1 ≤ n1 := hn1.1
          have n12 : n1 ≤ l.length := hn1.2.1
          clear hn1 HP2
          generalize V1.drewN q1 = V2 at *
          go_wp2_with fail
          refine (sameKey_calls HP3.out.pm.k2 H2.out (by omega) (fun x hx => by have := HP3.out.l2 x hx; omega)).mono ?_
          rintro e w9 ⟨m3, rfl, hm1, q2, rfl⟩
          have HP4 := Lib.hid (HP3.out.drewN q2)
          have HM1 := Lib.hid hm1
          have m11 : 1 ≤ m3 := hm1.1
          have m12 : m3 ≤ r.length := hm1.2.1
          clear hm1 HP3
          generalize V2.drewN q2 = V3 at *
          have ME := Lib.hid (minv_eq HP4.out.mi HP4.out.a1 HP4.out.a2 HN1.out HM1.out HCm.out)
          have PK0 : Hid (PK B rs.length kas kbs w V3 (some ⟨b1, o1, none⟩) (some ⟨b2, o2, none⟩) l r 0 F) := Lib.hid ⟨HP4.out.pm, by rw [List.drop_zero]; exact HP4.out.fd, HP4.out.bel⟩
          clear hc1 hc2 ck HCm
          go_wp2_with fail
          go_loopw [51] (fun s X => ∃ (k : Nat) (F' : List KS), s = .int .i64 k ∧ k ≤ n1 ∧ Hid (PK B rs.length kas kbs w X (some ⟨b1, o1, none⟩) (some ⟨b2, o2, none⟩) l r k F')) (fun s _ => n1 - (intOf s).toNat)
          case atStart => exact ⟨0, F, rfl, Nat.zero_le _, PK0⟩
          case round =>
            obtain ⟨X, rfl⟩ : ∃ x, x = wr := ⟨wr, rfl⟩
            obtain ⟨k, F', rfl, hk, HK⟩ := hrel
            by_cases hkn : k < n1
            · have hkl : k < l.length := by omega
              have hz := HP4.out.lk _ (atK_mem hkl)
              obtain ⟨_, _, e9, hbX, hcs⟩ : ∃ b off, (some ⟨b1, o1, none⟩ : Option Addr) = some ⟨b, off, none⟩ ∧ b < X.heap.size ∧ ∀ i, i < l.length → X.cell? ⟨b, off + i * 2, none⟩ = some (encV (atK l i).1) ∧ X.cell? ⟨b, off + i * 2 + 1, none⟩ = some (.int .i64 (atK l i).2) := by
                rcases HK.out.1.k1.1 with e | h
                · rw [e] at hkl; simp at hkl
                · exact h
              cases e9
              have z1 : X.cell? ⟨b1, o1 + k * 2, none⟩ = some (.slice (atK l k).1.1 (atK l k).1.2.1.length (atK l k).1.2.2) := (hcs k hkl).1
              have z2 := (hcs k hkl).2
              have hFl := HK.out.1.own.len
              have hgX : B < X.heap.size := by
                rcases HK.out.1.own.2 with ⟨e, _⟩ | ⟨g', cap, cur, e, _, hh, _⟩
                · cases e
                · cases e; exact (Array.getElem?_eq_some_iff.1 hh).1
              have f1 : X.cell? ⟨B, (atK l k).2, none⟩ = some (encS (atS F' (atK l k).2)) := by
                rw [World.ownsRow.cellAt HK.out.1.own _ (by omega), List.getElem?_map, List.getElem?_eq_getElem (by omega), atS_eq (by omega)]; rfl
              have f2 : X.frozen? ⟨B, (atK l k).2, none⟩ = false := World.ownsRow.frozenAt HK.out.1.own _
              have hmem : atK l k ∈ l.take n1 := by rw [atK_eq hkl]; exact List.mem_iff_getElem.2 ⟨k, by rw [List.length_take]; omega, by rw [List.getElem_take]⟩
              have STP := fun (d : Nat) (ob : Obj) => HK.out.step HP4.out.lk HNB.out hkl m3 d hrl (ME.out.1 _ hmem) ob hgX
              have HST := Lib.hid STP
              have hlt3 : (m3 : Nat) = (r.take m3).length := by rw [List.length_take]; omega
              have HL3 := Lib.hid hlt3
              clear hlt3 hcs hFl STP hmem
              have hz1 := hz.1
              clear hz
              generalize (atK l k).1.2.1.length = kl at *
              obtain ⟨row, hrow⟩ : ∃ x, (atK l k).2 = x := ⟨_, rfl⟩
              rw [hrow] at z2 f1 f2 hz1 HST
              clear hrow
              generalize (atK l k).1.1 = ka1 at *
              generalize (atK l k).1.2.2 = kc1 at *
              have q1 : (row : Int) < (rs.length : Int) := by omega
              have q2 : (0 : Int) ≤ (row : Int) := by omega
              have q3 : ¬ B = X.heap.size := by omega
              have q4 : ¬ X.heap.size = B := by omega
              go_wp2_with fail
              go_region
              go_wp2_with fail
              go_roundw
              case rel => exact ⟨k + 1, _, by go_num, by omega, Lib.hid (by have := HST.out d2 (.cells #[Value.slice ka1 kl kc1, Value.int IntKind.i64 row] 78); unfold encS at this; rw [← HL3.out] at this; exact this)⟩
              case measure => simp [intOf]; omega
            · have tk : decide (k < n1) = false := decide_eq_false hkn
              have HKn : Hid (PK B rs.length kas kbs w X (some ⟨b1, o1, none⟩) (some ⟨b2, o2, none⟩) l r n1 F') := Lib.hid (by rw [show n1 = k by omega]; exact HK.out)
              go_wp2_with fail
              go_region
              go_wp2_with fail
              go_roundw
              case rel => exact ⟨l.drop n1, r.drop m3, _, _, d1 - n1, d2 - m3, F', by rw [List.length_drop], by rw [List.length_drop], by rw [List.length_drop]; omega, by rw [List.length_drop]; omega, by rw [List.length_drop]; omega, by rw [List.length_drop]; omega, Lib.hid (HKn.out.fin HP4.out ME.out.2 hd1 hd2 1 _ _ rfl rfl)⟩
              case measure => simp only [lenW]; omega
        · rw [show cmpS (atK l 0).1.2.1 (atK r 0).1.2.1 = 1 by unfold cmpS; rw [if_neg (by omega), if_pos hc]] at ck
          have HCm := Lib.hid hc
          clear hc
          go_wp2_with fail
          go_quiet ((exact Calls.quiet_of (ck _)))
          rename_i qd
          go_wp2_with fail
          go_roundw
          case rel => exact ⟨l, r.drop 1, _, _, d1, d2 - 1, F, rfl, by rw [List.length_drop], hd1, by rw [List.length_drop]; omega, hll, by rw [List.length_drop]; omega, Lib.hid (HP.out.stepR H1.out H2.out HCm.out hd2 _)⟩
          case measure => simp only [lenW]; have := H2.out; omega
      · have g1 : decide ((0 : Int) < (l.length : Int)) = true := decide_eq_true (by omega)
        have g2 : decide ((0 : Int) < (r.length : Int)) = false := decide_eq_false (by omega)
        have hr0 : r = [] := List.eq_nil_of_length_eq_zero (by omega)
        have HF := Lib.hid (HP.out.fd.fin HP.out.lk HNB.out (minv_end (by rw [← hr0]; exact HP.out.mi)))
        have HFl := Lib.hid HP.out.pm.own.len
        clear hr0
        go_wp2_with fail
        go_ret
        exact ⟨_, _, F, by rw [HFl.out]; rfl, HP.out.pm.srow, by rw [HFl.out, LKK.out], by rw [LKK.out]; exact HF.out, by rw [HB.out]; exact HP.out.bel⟩
    · have g1 : decide ((0 : Int) < (l.length : Int)) = false := decide_eq_false (by omega)
      have hr0 : l = [] := List.eq_nil_of_length_eq_zero (by omega)
      have HF := Lib.hid (HP.out.fd.fin HP.out.lk HNB.out (by rw [hr0]; intro x hx; cases hx))
      have HFl := Lib.hid HP.out.pm.own.len
      clear hr0
      go_wp2_with fail
      go_ret
      exact ⟨_, _, F, by rw [HFl.out]; rfl, HP.out.pm.srow, by rw [HFl.out, LKK.out], by rw [LKK.out]; exact HF.out, by rw [HB.out]; exact HP.out.bel⟩
end Go.Proofs.Ytcecndjkfdaaaaa
