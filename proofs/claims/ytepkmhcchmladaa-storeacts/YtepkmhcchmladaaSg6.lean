import Derived.Test.YtepkmhcchmladaaSg5
/- Relations in memory; contract of segment.Make. -/
namespace Go.Proofs.Ytepkmhcchmladaa
open Go.RowKit
set_option linter.unusedVariables false
set_option linter.unusedSimpArgs false

/-- The pointer p is the relation of the rows rs, of width wd. -/
def Seg (w : World) (p : Option Addr) (wd : Nat) (rs : List (List Int)) : Prop :=
  SortedR rs ∧ (∀ r ∈ rs, r.length = wd) ∧
  ((p = none ∧ wd = 0 ∧ rs = []) ∨ ∃ g a n c, p = some ⟨g, 0, none⟩ ∧ w.heap[g]? = some (.cells #[.int .i64 wd, .int .i64 rs.length, .slice a n c] 61 (0, 0)) ∧
    (rs = [] ∨ (n = wd ∧ ∃ K : List RV, K.map (·.2.1) = colsOf wd rs ∧ RRow w a K)))
theorem Seg.below {w w' : World} {p : Option Addr} {wd : Nat} {rs : List (List Int)} (h : Seg w p wd rs) (hb : Below w.heap.size w w') : Seg w' p wd rs := by
  obtain ⟨h1, h2, h3⟩ := h
  refine ⟨h1, h2, ?_⟩
  rcases h3 with h3 | ⟨g, a, n, c, hp, hg, hr⟩
  · exact .inl h3
  · have hlt := (Array.getElem?_eq_some_iff.1 hg).1
    refine .inr ⟨g, a, n, c, hp, (hb.block g hlt).trans hg, ?_⟩
    rcases hr with hr | ⟨hn, K, hK, hR⟩
    · exact .inl hr
    · exact .inr ⟨hn, K, hK, hR.below hb⟩
theorem Seg.belowB {w w' : World} {B : Nat} {p : Option Addr} {wd : Nat} {rs : List (List Int)} (h : Seg w p wd rs) (hB : w.heap.size = B) (hb : Below B w w') : Seg w' p wd rs := by subst hB; exact h.below hb
def MakeRet (w : World) (wd : Nat) (rs : List (List Int)) (e : Ending) (w' : World) : Prop := ∃ p, e = .returned (.pointer p) ∧ (∀ W, Later w.heap.size w' W → Seg W p wd rs) ∧ Below w.heap.size w w'
def SegRet (w : World) (wd : Nat) (rs : List (List Int)) (e : Ending) (w' : World) : Prop := ∃ p, e = .returned (.pointer p) ∧ Seg w' p wd rs ∧ Below w.heap.size w w'

theorem app_rv {w wr w1 : World} {B : Nat} {v v' : Value} {L : List RV} {x : RV} (hB : B ≤ wr.heap.size) (hbel : Below B w wr) (hown : wr.ownsRow B 33 1 v L.length (L.map encV))
    (hown' : w1.ownsRow B 33 1 v' (L.length + 1) (L.map encV ++ [encV x])) (hgrow : (wr.alloc (.cells #[encV x] 33)).grownBy w1 v.ownBlock) :
    w1.ownsRow B 33 1 v' (L ++ [x]).length ((L ++ [x]).map encV) ∧ Below B w w1 := by
  refine ⟨by rw [List.map_append, List.length_append]; exact hown', ?_⟩
  exact ((hbel.alloc hB _).grown hgrow (by simp; omega) (fun k hk => (hown.lt k hk).1))

def ofWidth (wd : Nat) (A : List RV) : List RV := A.filter fun x => decide (x.2.1.length = wd)
theorem ofWidth_take {wd : Nat} {A : List RV} {k : Nat} (h : k < A.length) : ofWidth wd (A.take (k + 1)) = if (atV A k).2.1.length = wd then ofWidth wd (A.take k) ++ [atV A k] else ofWidth wd (A.take k) := by
  unfold ofWidth
  rw [List.take_succ_eq_append_getElem h, ← atV_eq h, List.filter_append]
  by_cases e : (atV A k).2.1.length = wd <;> simp [e]
theorem ofWidth_len (wd : Nat) (A : List RV) : (ofWidth wd A).length ≤ A.length := List.length_filter_le _ _
theorem make_rel {wd : Nat} {A L' : List RV} (hp : L'.Perm (ofWidth wd A)) (ha : AscV L') : (compL L').map (·.2.1) = relOf wd (A.map (·.2.1)) := by
  refine rel_unique (comp_sorted ha) (fun x => ?_)
  rw [comp_mem]
  constructor
  · intro h
    obtain ⟨y, hy, e⟩ := List.mem_map.1 h
    have h1 := hp.subset hy
    have h2 := List.mem_filter.1 h1
    refine ⟨List.mem_map.2 ⟨y, h2.1, e⟩, ?_⟩
    have := of_decide_eq_true h2.2
    rw [← e]; show ((y.2.1.length : Nat) : Int) = _; rw [this]
  · rintro ⟨h, hl⟩
    obtain ⟨y, hy, e⟩ := List.mem_map.1 h
    refine List.mem_map.2 ⟨y, hp.symm.subset (List.mem_filter.2 ⟨hy, decide_eq_true ?_⟩), e⟩
    have e' : y.2.1 = x := e
    rw [e']; omega

set_option maxRecDepth 100000 in
set_option maxHeartbeats 4000000 in
theorem make_later (wd : Nat) (a : Option Addr) (cap : Nat) (A : List RV) (w : World) (hR : RRow w a A) (hwd : wd ≤ 1000) (hA : A.length ≤ 1000) (hlen : ∀ x ∈ A, x.2.1.length ≤ 1000000) :
    Calls Try.prog 20 #[.int .i64 wd, .slice a A.length cap] w (MakeRet w wd (relOf wd (A.map (·.2.1)))) := by
  obtain ⟨i0, hi, hz0, hz1, hz2⟩ := info_parts info33
  have I := Lib.hid hi
  have Z0 := Lib.hid hz0
  have Z1 := Lib.hid hz1
  have Z2 := Lib.hid hz2
  clear hi hz0 hz1 hz2
  obtain ⟨B, hB⟩ : ∃ B, w.heap.size = B := ⟨_, rfl⟩
  have HB := Lib.hid hB
  have HR := Lib.hid hR
  have HLn := Lib.hid hlen
  clear hB hR hlen
  go_enter Try.func20, Try.ntmps20
  go_wp2_with fail
  go_loopw [10, 5] (fun s v wr => ∃ k : Nat, k ≤ A.length ∧ s = .int .i64 k ∧ Hid (wr.ownsRow B 33 1 v (ofWidth wd (A.take k)).length ((ofWidth wd (A.take k)).map encV)) ∧ Hid (Below B w wr)) (fun s _ _ => A.length - (intOf s).toNat)
  case atStart => exact ⟨0, Nat.zero_le _, rfl, Lib.hid (World.ownsRow_nil _ _ _ _), Lib.hid (Below.refl _ _)⟩
  case round =>
    obtain ⟨k, hk, rfl, HO, HBe⟩ := hrel
    have hBr : B ≤ wr.heap.size := by have := HBe.out.size; rw [HB.out] at this; exact this
    have hll : (ofWidth wd (A.take k)).length ≤ 1000 := by have := ofWidth_len wd (A.take k); simp at this; omega
    by_cases hlt : k < A.length
    · obtain ⟨b, off, rfl, hb, hcell, hrow, _⟩ := (HR.out.belowB HB.out HBe.out).at hlt
      have ST := Lib.hid (ofWidth_take (wd := wd) hlt)
      have hxl := HLn.out _ (atV_mem hlt)
      obtain ⟨x, hx⟩ : ∃ x, atV A k = x := ⟨_, rfl⟩
      rw [hx] at hcell hxl ST
      clear hrow hx
      obtain ⟨xa, xz, xc⟩ := x
      obtain ⟨L, hL⟩ : ∃ L, ofWidth wd (A.take k) = L := ⟨_, rfl⟩
      rw [hL] at HO ST hll
      clear hL
      simp only at hcell hxl
      by_cases hw : xz.length = wd
      · have S2 : Hid (ofWidth wd (A.take (k + 1)) = L ++ [(xa, xz, xc)]) := Lib.hid (by rw [ST.out, if_pos hw])
        have t1 : ((xz.length : Int) == (wd : Int)) = true := by rw [hw]; simp
        have HW := Lib.hid hw
        clear ST hw
        go_wp2_with (first | (at_builtin; refine wpList_append_own _ rfl _ _ 28 rfl B 33 i0 (.slice none 0 0) 1 24 Try.underlying28 I.out Z0.out Z1.out Z2.out rfl (by decide) _ _ _ rfl (HO.out.alloc _) ⟨wr.heap.size, 0, none⟩ 1 1 [.slice xa xz.length xc] rfl rfl ?c1 ?c2 ?c3 ?c4 ?c5 ?_))
        case c1 =>
          intro j u hj
          match j, hj with
          | 0, hj => simp at hj; subst hj; simp [Addr.add]
        case c2 => intro u hu; simp at hu; subst hu; rfl
        case c3 => unfold maxLen; omega
        case c4 => omega
        case c5 => simp; omega
        intro v' w1 hown' hgrow _
        have R := app_rv (x := (xa, xz, xc)) hBr HBe.out HO.out hown' hgrow
        have O1 := Lib.hid R.1
        have B1 := Lib.hid R.2
        clear hown' hgrow R hcell
        go_wp2_with fail
        go_roundw
        case rel => exact ⟨k + 1, by omega, by go_num, Lib.hid (by rw [S2.out]; exact O1.out), B1⟩
        case measure => simp [intOf]; omega
      · have S2 : Hid (ofWidth wd (A.take (k + 1)) = L) := Lib.hid (by rw [ST.out, if_neg hw])
        have t1 : ((xz.length : Int) == (wd : Int)) = false := beq_eq_false_iff_ne.2 (by omega)
        clear ST hw
        go_wp2_with fail
        go_roundw
        case rel => exact ⟨k + 1, by omega, by go_num, Lib.hid (by rw [S2.out]; exact HO.out), HBe⟩
        case measure => simp [intOf]; omega
    · obtain rfl : k = A.length := by omega
      rw [List.take_length] at HO hll
      have hok : ∀ x ∈ ofWidth wd A, RVok w x := fun x hx => ⟨(HR.out.2 x (List.mem_filter.1 hx).1).1, HLn.out x (List.mem_filter.1 hx).1⟩
      have HOK := Lib.hid hok
      clear hok hlt hk
      go_wp2_with fail
      refine (sort_calls HB.out HBe.out HO.out HOK.out (by omega)).mono ?_
      rintro e w1 ⟨rfl, L', hp, ha, hown1, hb1⟩
      have O1 := Lib.hid hown1
      have B1 := Lib.hid (HBe.out.trans hb1)
      have RL := Lib.hid (make_rel hp ha)
      have OK1 : Hid (∀ x ∈ L', RVok w x) := Lib.hid (fun x hx => HOK.out x (hp.subset hx))
      have CP1 : Hid (∀ x ∈ L', x.2.1.length ≤ x.2.2) := Lib.hid (fun x hx => (HR.out.2 x (List.mem_filter.1 (hp.subset hx)).1).2)
      have LL : Hid (L'.length = (ofWidth wd A).length) := Lib.hid hp.length_eq
      have WL : Hid (∀ x ∈ L', x.2.1.length = wd) := Lib.hid (fun x hx => of_decide_eq_true (List.mem_filter.1 (hp.subset hx)).2)
      clear hp ha hown1 hb1
      go_wp2_with fail
      refine (compact_calls HB.out B1.out (L := L') (by rw [LL.out]; exact O1.out) OK1.out (by rw [LL.out]; omega)).mono ?_
      rintro e w2 ⟨v2, rfl, hown2, hb2⟩
      have O2 := Lib.hid hown2
      have B2 := Lib.hid (B1.out.trans hb2)
      have hcl : (compL L').length ≤ 1000 := by
        have h1 : (compL L').length ≤ L'.length := by
          cases L' with
          | nil => simp [compL]
          | cons x l => simp only [compL, List.length_cons]; have := compG_len x.2.1 l; omega
        have := LL.out; omega
      have WL2 : Hid (∀ x ∈ compL L', x.2.1.length = wd) := Lib.hid (fun x hx => WL.out x (comp_sub _ x hx))
      have hR2 : ∀ x ∈ compL L', Row w2 x.1 x.2.1 ∧ x.2.1.length ≤ x.2.2 := fun x hx => ⟨(OK1.out x (comp_sub _ x hx)).1.belowB HB.out B2.out, CP1.out x (comp_sub _ x hx)⟩
      obtain ⟨a2, c2, rfl, hrr⟩ := rrow_of_owns O2.out hR2
      have HRR := Lib.hid hrr
      clear hown2 hb2 hR2 hrr
      have LR : Hid ((compL L').length = (relOf wd (A.map (·.2.1))).length) := Lib.hid (by rw [← RL.out]; simp)
      generalize compL L' = C at *
      have SRT := Lib.hid (rel_sorted (wd : Int) (A.map (·.2.1)))
      have WDS : Hid (∀ r ∈ relOf wd (A.map (·.2.1)), r.length = wd) := Lib.hid (fun r hr => by have := ((mem_rel _ _ _).1 hr).2; omega)
      by_cases h0 : C.length = 0
      · have R0 : Hid (relOf wd (A.map (·.2.1)) = []) := Lib.hid (List.eq_nil_of_length_eq_zero (by rw [← LR.out]; exact h0))
        rw [h0]
        clear h0
        go_wp2_with fail
        go_ret
        have hB2 : B ≤ w2.heap.size := by have := B2.out.size; rw [HB.out] at this; exact this
        refine ⟨_, rfl, fun W hl => ⟨SRT.out, WDS.out, .inr ⟨w2.heap.size, none, 0, 0, rfl, ?_, .inl R0.out⟩⟩, ?_⟩
        · rw [R0.out]
          exact (hl.2 w2.heap.size (by rw [HB.out]; exact hB2) (by simp)).trans (heap_alloc_new w2 _)
        · rw [HB.out]; exact B2.out.alloc (by have := B2.out.size; rw [HB.out] at this; exact this) _
      · have t0 : ((C.length : Int) == 0) = false := beq_eq_false_iff_ne.2 (by omega)
        go_wp2_with fail
        refine (columns_calls wd a2 c2 C w2 HRR.out hwd (by omega) WL2.out).mono ?_
        rintro e w3 ⟨a3, c3, K, rfl, hK, hrr3, hb3⟩
        have K3 := Lib.hid hK
        have R3 := Lib.hid hrr3
        have B3 := Lib.hid hb3
        clear hK hrr3 hb3
        go_wp2_with fail
        go_ret
        have hB2 : B ≤ w2.heap.size := by have := B2.out.size; rw [HB.out] at this; exact this
        refine ⟨_, rfl, fun W hl => ⟨SRT.out, WDS.out, .inr ⟨w3.heap.size, a3, wd, c3, rfl, ?_, .inr ⟨rfl, K, ?_, ?_⟩⟩⟩, ?_⟩
        · rw [← LR.out]
          exact (hl.2 w3.heap.size (by rw [HB.out]; exact Nat.le_trans hB2 B3.out.size) (by simp)).trans (heap_alloc_new w3 _)
        · rw [K3.out, RL.out]
        · exact R3.out W ((Later.of_below ((Below.refl _ _).alloc (Nat.le_refl _) _)).trans hl (by rw [HB.out]; exact hB2))
        · have h2 := B2.out.size
          rw [HB.out] at h2 ⊢
          have h3 := B3.out.size
          exact (B2.out.trans (B3.out.mono h2)).alloc (by omega) _
theorem make_calls (wd : Nat) (a : Option Addr) (cap : Nat) (A : List RV) (w : World) (hR : RRow w a A) (hwd : wd ≤ 1000) (hA : A.length ≤ 1000) (hlen : ∀ x ∈ A, x.2.1.length ≤ 1000000) :
    Calls Try.prog 20 #[.int .i64 wd, .slice a A.length cap] w (SegRet w wd (relOf wd (A.map (·.2.1)))) :=
  (make_later wd a cap A w hR hwd hA hlen).mono fun e w' ⟨p, he, hs, hb⟩ => ⟨p, he, hs w' (Later.refl _ _), hb⟩
end Go.Proofs.Ytepkmhcchmladaa
