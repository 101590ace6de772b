/- Contracts of the statements' own at, few, Texts and head. -/
import Derived.Test.YtplckcnmpnnkgaaIn3
namespace Go.Proofs.Ytplckcnmpnnkgaa
open Go.RowKit Go.Maps
set_option linter.unusedVariables false
set_option linter.unusedSimpArgs false

/-- The slice at address a reads as the texts ts. -/
def SRow (w : World) (a : Option Addr) (ts : List ByteArray) : Prop :=
  ts = [] ∨ ∃ b off, a = some ⟨b, off, none⟩ ∧ b < w.heap.size ∧ ∀ i, i < ts.length → w.cell? ⟨b, off + i, none⟩ = some (.string (ts.getD i ByteArray.empty))
theorem SRow.keeps {N : Nat → Prop} {w w' : World} {a : Option Addr} {ts : List ByteArray} (h : SRow w a ts) (hk : Keeps N w w') (hn : ∀ x, a = some x → ¬ N x.block) : SRow w' a ts := by
  rcases h with rfl | ⟨b, off, rfl, hlt, hc⟩
  · exact .inl rfl
  · exact .inr ⟨b, off, rfl, Nat.lt_of_lt_of_le hlt hk.size, fun i hi => (World.cell?_of_block (a := ⟨b, off + i, none⟩) (hk.block b hlt (hn _ rfl))).trans (hc i hi)⟩
theorem SRow.below {w w' : World} {a : Option Addr} {ts : List ByteArray} (h : SRow w a ts) (hb : Below w.heap.size w w') : SRow w' a ts := by
  rcases h with rfl | ⟨b, off, rfl, hlt, hc⟩
  · exact .inl rfl
  · exact .inr ⟨b, off, rfl, Nat.lt_of_lt_of_le hlt hb.size, fun i hi => (hb.cell (p := ⟨b, off + i, none⟩) hlt).trans (hc i hi)⟩
theorem SRow.belowB {w w' : World} {B : Nat} {a : Option Addr} {ts : List ByteArray} (h : SRow w a ts) (hB : w.heap.size = B) (hb : Below B w w') : SRow w' a ts := by
  subst hB; exact h.below hb
theorem SRow.at {w : World} {a : Option Addr} {ts : List ByteArray} (h : SRow w a ts) {k : Nat} (hk : k < ts.length) :
    ∃ b off, a = some ⟨b, off, none⟩ ∧ b < w.heap.size ∧ w.cell? ⟨b, off + k, none⟩ = some (.string (ts.getD k ByteArray.empty)) := by
  rcases h with rfl | ⟨b, off, rfl, hlt, hc⟩
  · simp at hk
  · exact ⟨b, off, rfl, hlt, hc k hk⟩
theorem srow_of_owns {w : World} {base : Nat} {t : TypeId} {v : Value} {n : Nat} {ts : List ByteArray} (h : w.ownsRow base t 1 v n (ts.map Value.string)) :
    ∃ a cap, v = .slice a ts.length cap ∧ SRow w a ts ∧ ∀ x, a = some x → base ≤ x.block ∧ x.block < w.heap.size := by
  obtain ⟨hl, h | ⟨g, cap, cur, rfl, hb, hh, hn, hm, hcs, ht⟩⟩ := h
  · obtain ⟨rfl, rfl⟩ := h
    obtain rfl : ts = [] := by simpa using hl
    exact ⟨none, 0, rfl, .inl rfl, fun x hx => by cases hx⟩
  · obtain rfl : n = ts.length := by simpa using hl.symm
    have hlt := (Array.getElem?_eq_some_iff.1 hh).1
    refine ⟨_, cap, rfl, .inr ⟨g, 0, rfl, hlt, fun i hi => ?_⟩, fun x hx => by cases hx; exact ⟨hb, hlt⟩⟩
    have hx : cur[i]? = some (.string (ts.getD i ByteArray.empty)) := by
      have e1 : (cur.toList.take (ts.length * 1))[i]? = some (.string (ts.getD i ByteArray.empty)) := by rw [ht]; simp [hi]
      rw [List.getElem?_take_of_lt (by omega)] at e1
      simpa using e1
    simp [World.cell?, hh, hx]

theorem getD_at {ts : List ByteArray} {k : Nat} (h : k < ts.length) : ts.getD k ByteArray.empty = ts[k] := by
  rw [List.getD_eq_getElem?_getD, List.getElem?_eq_getElem h, Option.getD_some]
theorem take_snoc {ts : List ByteArray} {k : Nat} (h : k < ts.length) : ts.take (k + 1) = ts.take k ++ [ts.getD k ByteArray.empty] := by
  rw [List.take_succ_eq_append_getElem h, getD_at h]
theorem mem_take_step {ts : List ByteArray} {k : Nat} {s : ByteArray} (h : k < ts.length) (h0 : mem (ts.take k) s = false) (h1 : ¬ ts.getD k ByteArray.empty = s) : mem (ts.take (k + 1)) s = false := by
  rw [take_snoc h, mem_snoc, h0]; simp only [Bool.false_or, decide_eq_false_iff_not]; exact h1
theorem mem_append (l r : List ByteArray) (s : ByteArray) : mem (l ++ r) s = (mem l s || mem r s) := by
  induction l with
  | nil => simp [mem]
  | cons x l ih => simp [mem, ih, Bool.or_assoc]
theorem place_append_not {l r : List ByteArray} {s : ByteArray} (h : mem l s = false) : place (l ++ r) s = l.length + place r s := by
  induction l with
  | nil => simp
  | cons x l ih =>
    simp only [mem, Bool.or_eq_false_iff, decide_eq_false_iff_not] at h
    simp only [List.cons_append, place, h.1, if_false, ih h.2, List.length_cons]; omega
theorem place_found {ts : List ByteArray} {k : Nat} {s : ByteArray} (h : k < ts.length) (h0 : mem (ts.take k) s = false) (h1 : ts.getD k ByteArray.empty = s) : placeI ts s = (k : Int) := by
  have e : ts = ts.take k ++ (ts.drop k) := (List.take_append_drop k ts).symm
  have ed : ts.drop k = s :: ts.drop (k + 1) := by rw [List.drop_eq_getElem_cons h, ← getD_at h, h1]
  have em : mem ts s = true := by rw [e, mem_append, ed]; simp [mem]
  have ep : place ts s = k := by rw [e, place_append_not h0, ed]; simp [place]; omega
  unfold placeI; rw [if_pos em, ep]
theorem place_missing {ts : List ByteArray} {s : ByteArray} (h : mem ts s = false) : placeI ts s = -1 := by unfold placeI; rw [if_neg (by simp [h])]

set_option maxHeartbeats 400000 in
/-- at: the place of a text in a row, or -1. -/
theorem at_calls (a : Option Addr) (cap : Nat) (ts : List ByteArray) (s : ByteArray) (w : World) (hR : SRow w a ts) (hl : ts.length ≤ 1000000) :
    Calls Try.prog 12 #[.slice a ts.length cap, .string s] w fun e w' => e = .returned (.int .i64 (placeI ts s)) ∧ w = w' := by
  go_enter Try.func12, Try.ntmps12
  go_wp2_with fail
  go_loop [9] (fun i => ∃ k : Nat, k ≤ ts.length ∧ i = .int .i64 k ∧ mem (ts.take k) s = false) (fun i => ts.length - (intOf i).toNat)
  case atStart => exact ⟨0, Nat.zero_le _, rfl, rfl⟩
  case round =>
    obtain ⟨k, hk, rfl, hm⟩ := hrel
    have HM := Lib.hid hm
    clear hm
    by_cases hlt : k < ts.length
    · obtain ⟨b, off, rfl, hb, hcell⟩ := hR.at hlt
      by_cases e : ts.getD k ByteArray.empty = s
      · have P := Lib.hid (place_found hlt HM.out e)
        rw [e] at hcell
        have t1 : (s.toList == s.toList) = true := by simp
        clear e
        go_wp2_with fail
        go_ret
        exact ⟨ret_i64 P.out.symm, rfl⟩
      · have P := Lib.hid (mem_take_step hlt HM.out e)
        have t1 := toList_ne e
        clear e
        generalize ts.getD k ByteArray.empty = t at *
        go_wp2_with fail
        go_round
        case rel => exact ⟨k + 1, by omega, by go_num, P.out⟩
        case measure => simp [intOf]; omega
    · obtain rfl : k = ts.length := by omega
      have P : Hid (placeI ts s = -1) := Lib.hid (place_missing (by have := HM.out; rwa [List.take_length] at this))
      go_wp2_with fail
      go_ret
      exact ⟨ret_i64 P.out.symm, rfl⟩

def fewB (ss : List ByteArray) : Bool := ss.all (fun s => decide (s.size ≤ 60)) && decide (ss.length ≤ 60)
theorem ret_b {x y : Bool} (h : x = y) : Ending.returned (.bool x) = .returned (.bool y) := by rw [h]
theorem few_short {ss : List ByteArray} {k : Nat} (h : k < ss.length) (h1 : 60 < (ss.getD k ByteArray.empty).size) : fewB ss = false := by
  unfold fewB
  rw [Bool.and_eq_false_iff]; left
  rw [List.all_eq_false]
  exact ⟨ss[k], List.getElem_mem h, by rw [← getD_at h]; simp only [decide_eq_true_eq]; omega⟩

set_option maxHeartbeats 400000 in
theorem few_calls (a : Option Addr) (cap : Nat) (ss : List ByteArray) (w : World) (hR : SRow w a ss) (hl : ss.length ≤ maxLen) (hsz : ∀ s ∈ ss, s.size ≤ maxLen) :
    Calls Try.prog 8 #[.slice a ss.length cap] w fun e w' => e = .returned (.bool (fewB ss)) ∧ w = w' := by
  unfold maxLen at hl
  go_enter Try.func8, Try.ntmps8
  go_wp2_with fail
  go_loop [7] (fun i => ∃ k : Nat, k ≤ ss.length ∧ i = .int .i64 k ∧ ∀ s ∈ ss.take k, s.size ≤ 60) (fun i => ss.length - (intOf i).toNat)
  case atStart => exact ⟨0, Nat.zero_le _, rfl, by simp⟩
  case round =>
    obtain ⟨k, hk, rfl, hm⟩ := hrel
    have HM := Lib.hid hm
    clear hm
    by_cases hlt : k < ss.length
    · obtain ⟨b, off, rfl, hb, hcell⟩ := hR.at hlt
      have hbig : (ss.getD k ByteArray.empty).size ≤ maxLen := hsz _ (by rw [getD_at hlt]; exact List.getElem_mem hlt)
      unfold maxLen at hbig
      by_cases e : 60 < (ss.getD k ByteArray.empty).size
      · have P := Lib.hid (few_short hlt e)
        have HS := Lib.hid hsz
        clear hsz
        generalize ss.getD k ByteArray.empty = t at *
        have t1 : decide (60 < t.size) = true := by simpa using e
        go_wp2_with fail
        go_ret
        exact ⟨ret_b P.out.symm, rfl⟩
      · have P : Hid (∀ s ∈ ss.take (k + 1), s.size ≤ 60) := Lib.hid (by
          rw [take_snoc hlt]; intro s hs; rcases List.mem_append.1 hs with h | h
          · exact HM.out s h
          · rw [List.mem_singleton.1 h]; omega)
        have HS := Lib.hid hsz
        clear hsz
        generalize ss.getD k ByteArray.empty = t at *
        have t1 : decide (60 < t.size) = false := by simpa using e
        go_wp2_with fail
        go_round
        case rel => exact ⟨k + 1, by omega, by go_num, P.out⟩
        case measure => simp [intOf]; omega
    · obtain rfl : k = ss.length := by omega
      have P : Hid (fewB ss = decide ((ss.length : Int) ≤ 60)) := Lib.hid (by
        unfold fewB
        have h1 : ss.all (fun s => decide (s.size ≤ 60)) = true := by
          rw [List.all_eq_true]; intro s hs; have := HM.out s (by rw [List.take_length]; exact hs); simpa using this
        rw [h1, Bool.true_and, decide_eq_decide]; omega)
      have HS := Lib.hid hsz
      clear hsz
      go_wp2_with fail
      go_ret
      exact ⟨ret_b (by rw [P.out]), rfl⟩

/-- The texts of a row, each once, in order. -/
def uniq (ss : List ByteArray) : List ByteArray := ss.foldl adds []
theorem uniq_snoc (l : List ByteArray) (s : ByteArray) : uniq (l ++ [s]) = adds (uniq l) s := by simp [uniq]
theorem uniq_take {ss : List ByteArray} {k : Nat} (h : k < ss.length) : uniq (ss.take (k + 1)) = adds (uniq (ss.take k)) (ss.getD k ByteArray.empty) := by
  rw [take_snoc h, uniq_snoc]
theorem adds_len (ts : List ByteArray) (s : ByteArray) : (adds ts s).length ≤ ts.length + 1 ∧ ts.length ≤ (adds ts s).length := by
  unfold adds; split <;> simp
theorem foldl_len (l acc : List ByteArray) : (l.foldl adds acc).length ≤ acc.length + l.length := by
  induction l generalizing acc with
  | nil => simp
  | cons x l ih => have h1 := ih (adds acc x); have h2 := adds_len acc x; simp only [List.foldl_cons, List.length_cons]; omega
theorem uniq_len (l : List ByteArray) : (uniq l).length ≤ l.length := by have := foldl_len l []; simpa [uniq] using this

def TextsRet (w : World) (ts : List ByteArray) (e : Ending) (w' : World) : Prop :=
  ∃ a cap, e = .returned (.slice a ts.length cap) ∧ SRow w' a ts ∧ Below w.heap.size w w' ∧ ∀ x, a = some x → w.heap.size ≤ x.block ∧ x.block < w'.heap.size

theorem appS_step {w wr w1 : World} {B : Nat} {v v' : Value} {xs : List ByteArray} {y : ByteArray} (hB : B ≤ wr.heap.size)
    (hbel : Below B w wr) (hown : wr.ownsRow B 9 1 v xs.length (xs.map Value.string))
    (hown' : w1.ownsRow B 9 1 v' (xs.length + 1) (xs.map Value.string ++ [.string y])) (hgrow : (wr.alloc (.cells #[.string y] 9)).grownBy w1 v.ownBlock) :
    w1.ownsRow B 9 1 v' (xs ++ [y]).length ((xs ++ [y]).map Value.string) ∧ Below B w w1 := by
  refine ⟨by rw [List.map_append, List.length_append]; exact hown', ?_⟩
  exact ((hbel.alloc hB _).grown hgrow (by simp; omega) (fun k hk => (hown.lt k hk).1))

set_option maxHeartbeats 1000000 in
theorem texts_calls (a : Option Addr) (cap : Nat) (ss : List ByteArray) (w : World) (hR : SRow w a ss) (hl : ss.length ≤ 1000) :
    Calls Try.prog 10 #[.slice a ss.length cap] w (TextsRet w (uniq ss)) := by
  obtain ⟨i0, hi, hz0, hz1, hz2⟩ := info_parts info9
  have I := Lib.hid hi
  have Z0 := Lib.hid hz0
  have Z1 := Lib.hid hz1
  have Z2 := Lib.hid hz2
  clear hi hz0 hz1 hz2
  obtain ⟨B, hB⟩ : ∃ B, w.heap.size = B := ⟨_, rfl⟩
  have HB := Lib.hid hB
  clear hB
  go_enter Try.func10, Try.ntmps10
  go_wp2_with fail
  go_loopw [3, 9] (fun v i wr => ∃ k : Nat, k ≤ ss.length ∧ i = .int .i64 k ∧ wr.ownsRow B 9 1 v (uniq (ss.take k)).length ((uniq (ss.take k)).map Value.string) ∧ Below B w wr)
    (fun _ i _ => ss.length - (intOf i).toNat)
  case atStart => exact ⟨0, Nat.zero_le _, rfl, World.ownsRow_made w #[] 0 (Nat.le_of_eq HB.out.symm) (by decide) rfl, (Below.refl _ _).alloc (Nat.le_of_eq HB.out.symm) _⟩
  case round =>
    obtain ⟨k, hk, rfl, hown, hbel⟩ := hrel
    have hBr : B ≤ wr.heap.size := by have := hbel.size; rw [HB.out] at this; exact this
    have hul : (uniq (ss.take k)).length ≤ k := by have h1 := uniq_len (ss.take k); rw [List.length_take_of_le hk] at h1; exact h1
    by_cases hlt : k < ss.length
    · obtain ⟨b, off, rfl, hb, hcell⟩ := (hR.belowB HB.out hbel).at hlt
      have U := Lib.hid (uniq_take hlt)
      generalize ss.getD k ByteArray.empty = s at *
      obtain ⟨xs, hxs⟩ : ∃ xs, uniq (ss.take k) = xs := ⟨_, rfl⟩
      rw [hxs] at hown hul
      have HX := Lib.hid hxs
      clear hxs
      obtain ⟨a1, c1, rfl, hS, _⟩ := srow_of_owns hown
      by_cases hm : mem xs s = true
      · have P : Hid (placeI xs s = (place xs s : Int)) := Lib.hid (if_pos hm)
        have E : Hid (adds xs s = xs) := Lib.hid (adds_in hm)
        clear hm
        have pc : Calls Try.prog 12 #[.slice a1 xs.length c1, .string s] wr fun e w' => e = .returned (.int .i64 (place xs s)) ∧ wr = w' := by
          have h := at_calls a1 c1 xs s wr hS (by omega); rw [P.out] at h; exact h
        have PC := Lib.hid pc
        clear pc
        have h0 : decide (((place xs s : Nat) : Int) < 0) = false := by simp
        generalize place xs s = q at *
        go_wp2_with (first | (go_at_call 12; refine PC.out.mono ?_; rintro e w' ⟨rfl, rfl⟩))
        go_roundw
        case rel => exact ⟨k + 1, by omega, by go_num, by rw [U.out, HX.out, E.out]; exact hown, hbel⟩
        case measure => simp [intOf]; omega
      · have hm' : mem xs s = false := by simpa using hm
        have E : Hid (adds xs s = xs ++ [s]) := Lib.hid (adds_new hm')
        have pc : Calls Try.prog 12 #[.slice a1 xs.length c1, .string s] wr fun e w' => e = .returned (.int .i64 (-1)) ∧ wr = w' := by
          have h := at_calls a1 c1 xs s wr hS (by omega); rw [place_missing hm'] at h; exact h
        have PC := Lib.hid pc
        clear pc hm hm'
        go_wp2_with (first
          | (go_at_call 12; refine PC.out.mono ?_; rintro e w' ⟨rfl, rfl⟩)
          | (at_builtin; refine wpList_append_own _ rfl _ _ 22 rfl B 9 i0 (.string ⟨#[]⟩) 1 16 Try.underlying22 I.out Z0.out Z1.out Z2.out rfl (by decide) _ _ _ rfl (hown.alloc _) ⟨wr.heap.size, 0, none⟩ 1 1 [.string s] rfl rfl ?c1 ?c2 ?c3 ?c4 ?c5 ?_))
        case c1 =>
          intro j u hj
          match j, hj with
          | 0, hj => simp at hj; subst hj; simp [Addr.add]
        case c2 => intro u hu; simp at hu; subst hu; rfl
        case c3 => unfold maxLen; omega
        case c4 => omega
        case c5 => simp; omega
        intro v' w1 hown' hgrow _
        have R := appS_step hBr hbel hown hown' hgrow
        clear hown' hgrow hown hcell PC hS
        go_wp2_with fail
        go_roundw
        case rel => exact ⟨k + 1, by omega, by go_num, by rw [U.out, HX.out, E.out]; exact R.1, R.2⟩
        case measure => simp [intOf]; omega
    · obtain rfl : k = ss.length := by omega
      rw [List.take_length] at hown
      obtain ⟨a1, c1, rfl, hS, hb⟩ := srow_of_owns hown
      have HBb := Lib.hid hb
      clear hb
      go_wp2_with fail
      go_ret
      exact ⟨a1, c1, rfl, hS, by rw [HB.out]; exact hbel, by rw [HB.out]; exact HBb.out⟩

def TrueRet (w : World) (e : Ending) (w' : World) : Prop := e = .returned (.bool true) ∧ Below w.heap.size w w'
def tb : ByteArray := ⟨#[98]⟩
def ta : ByteArray := ⟨#[97]⟩

set_option maxHeartbeats 1000000 in
theorem head_calls (w : World) : Calls Try.prog 7 #[] w (TrueRet w) := by
  obtain ⟨N, hN⟩ : ∃ N : Nat → Prop, N = fun k => w.heap.size ≤ k := ⟨_, rfl⟩
  have hup : ∀ k, w.heap.size ≤ k → N k := fun k hk => by rw [hN]; exact hk
  have hdn : ∀ k, N k → w.heap.size ≤ k := fun k hk => by rw [hN] at hk; exact hk
  have HUP := Lib.hid hup
  have HDN := Lib.hid hdn
  clear hup hdn hN
  have E1 : Hid (adds [] tb = [tb] ∧ ((place [tb] tb : Nat) : Int) = 0) := Lib.hid ⟨by decide, by decide⟩
  have E2 : Hid (adds [tb] ta = [tb, ta] ∧ ((place [tb, ta] ta : Nat) : Int) = 1) := Lib.hid ⟨by decide, by decide⟩
  have E3 : Hid (adds [tb, ta] tb = [tb, ta] ∧ ((place [tb, ta] tb : Nat) : Int) = 0) := Lib.hid ⟨by decide, by decide⟩
  have E4 : Hid (cmpT [tb, ta] 0 1 = 1) := Lib.hid (by unfold cmpT cmpS; rw [ByteArray.toList_eq, ByteArray.toList_eq]; decide)
  go_enter Try.func7, Try.ntmps7
  go_wp2_with fail
  refine (new_calls _).mono ?_
  rintro e w1 ⟨rfl, hw1⟩
  have hT : Tab N w1 w.heap.size [] := by rw [hw1]; exact tab_new w N (HUP.out _ (Nat.le_refl _))
  have hK : Keeps N w w1 := by rw [hw1]; exact (Keeps.refl _ _).alloc _
  have hu1 : Hid (∀ k, w1.heap.size ≤ k → N k) := Lib.hid (fun k hk => HUP.out k (Nat.le_trans hK.size hk))
  obtain ⟨g, hg⟩ : ∃ g, w.heap.size = g := ⟨_, rfl⟩
  have HG := Lib.hid hg
  rw [hg] at hT ⊢
  clear hg hw1
  go_wp2_with fail
  refine (id_calls hT tb (by decide) (by decide) hu1.out).mono ?_
  rintro e w2 ⟨rfl, hT2, hK2⟩
  rw [E1.out.1] at hT2 ⊢
  rw [E1.out.2]
  have hKb := hK.trans hK2
  have hu2 : Hid (∀ k, w2.heap.size ≤ k → N k) := Lib.hid (fun k hk => HUP.out k (Nat.le_trans hKb.size hk))
  clear hT hK hK2 hu1
  go_wp2_with fail
  refine (id_calls hT2 ta (by decide) (by decide) hu2.out).mono ?_
  rintro e w3 ⟨rfl, hT3, hK3⟩
  rw [E2.out.1] at hT3 ⊢
  rw [E2.out.2]
  have hKc := hKb.trans hK3
  have hu3 : Hid (∀ k, w3.heap.size ≤ k → N k) := Lib.hid (fun k hk => HUP.out k (Nat.le_trans hKc.size hk))
  clear hT2 hKb hK3 hu2
  go_wp2_with fail
  refine (id_calls hT3 tb (by decide) (by decide) hu3.out).mono ?_
  rintro e w4 ⟨rfl, hT4, hK4⟩
  rw [E3.out.1] at hT4 ⊢
  rw [E3.out.2]
  have hKd := hKc.trans hK4
  clear hT3 hKc hK4 hu3
  go_wp2_with (first
    | (go_at_call 16; refine (compare_calls hT4 _ _ (by decide)).mono ?_; rintro e w' ⟨rfl, rfl⟩; rw [E4.out])
    | (go_at_call 14; refine (len_calls hT4).mono ?_; rintro e w' ⟨rfl, rfl⟩))
  go_ret
  exact ⟨rfl, hKd.below (Nat.le_refl _) HDN.out⟩
end Go.Proofs.Ytplckcnmpnnkgaa
