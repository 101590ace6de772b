/- The statement InternIDs, walked. -/
import Derived.Test.YtplckcnmpnnkgaaIn4
namespace Go.Proofs.Ytplckcnmpnnkgaa
open Go.RowKit Go.Maps
set_option linter.unusedVariables false
set_option linter.unusedSimpArgs false

theorem mem_adds (ts : List ByteArray) (s : ByteArray) : mem (adds ts s) s = true := by
  unfold adds; split
  · assumption
  · rw [mem_snoc]; simp
theorem adds_pre (ts : List ByteArray) (s : ByteArray) : ∃ r, adds ts s = ts ++ r := by
  unfold adds; split
  · exact ⟨[], by simp⟩
  · exact ⟨[s], rfl⟩
theorem foldl_pre (l acc : List ByteArray) : ∃ r, l.foldl adds acc = acc ++ r := by
  induction l generalizing acc with
  | nil => exact ⟨[], by simp⟩
  | cons x l ih =>
    obtain ⟨r, hr⟩ := ih (adds acc x)
    obtain ⟨r', hr'⟩ := adds_pre acc x
    exact ⟨r' ++ r, by rw [List.foldl_cons, hr, hr', List.append_assoc]⟩
theorem uniq_pre (l r : List ByteArray) : ∃ q, uniq (l ++ r) = uniq l ++ q := by
  unfold uniq; rw [List.foldl_append]; exact foldl_pre r _
theorem place_append_in {l r : List ByteArray} {s : ByteArray} (h : mem l s = true) : place (l ++ r) s = place l s := by
  induction l with
  | nil => simp [mem] at h
  | cons x l ih =>
    simp only [List.cons_append, place]
    by_cases e : x = s
    · simp [e]
    · simp only [mem, e, decide_false, Bool.false_or] at h; simp [e, ih h]
/-- The number that a text gets is its place among all. -/
theorem place_step {ss : List ByteArray} {k : Nat} (h : k < ss.length) : placeI (uniq ss) (ss.getD k ByteArray.empty) = (place (adds (uniq (ss.take k)) (ss.getD k ByteArray.empty)) (ss.getD k ByteArray.empty) : Int) := by
  rw [← uniq_take h]
  obtain ⟨q, hq⟩ := uniq_pre (ss.take (k + 1)) (ss.drop (k + 1))
  rw [List.take_append_drop] at hq
  have hm : mem (uniq (ss.take (k + 1))) (ss.getD k ByteArray.empty) = true := by rw [uniq_take h]; exact mem_adds _ _
  unfold placeI
  rw [hq, mem_append, hm, Bool.true_or, if_pos rfl, place_append_in hm]

theorem few_sz {ss : List ByteArray} (h : fewB ss = true) : ss.length ≤ 60 ∧ ∀ k, k < ss.length → (ss.getD k ByteArray.empty).size ≤ 60 := by
  unfold fewB at h
  rw [Bool.and_eq_true, List.all_eq_true] at h
  refine ⟨by simpa using h.2, fun k hk => ?_⟩
  rw [getD_at hk]
  simpa using h.1 _ (List.getElem_mem hk)
theorem few_is {a : Option Addr} {cap : Nat} {ss : List ByteArray} {r : Bool} (w : World) (hR : SRow w a ss) (hl : ss.length ≤ maxLen) (hsz : ∀ s ∈ ss, s.size ≤ maxLen) (h : fewB ss = r) :
    Calls Try.prog 8 #[.slice a ss.length cap] w fun e w' => e = .returned (.bool r) ∧ w = w' := h ▸ few_calls a cap ss w hR hl hsz

set_option maxRecDepth 100000 in
set_option maxHeartbeats 1000000 in
theorem ids_skip (a : Option Addr) (cap : Nat) (ss : List ByteArray) (o : ByteArray) (id : Int) (w : World) (hR : SRow w a ss) (hl : ss.length ≤ maxLen) (hsz : ∀ s ∈ ss, s.size ≤ maxLen) (ho : o.size ≤ maxLen) (h : fewB ss = false ∨ (fewB ss = true ∧ 60 < o.size)) :
    Calls Try.prog 3 #[.slice a ss.length cap, .string o, .int .i64 id] w (TrueRet w) := by
  have HS := Lib.hid hsz
  clear hsz
  unfold maxLen at ho
  rcases h with h | ⟨h, h2⟩
  · have H := Lib.hid h
    clear h
    go_enter Try.func3, Try.ntmps3
    go_wp2_with fail
    refine (head_calls _).mono ?_
    rintro e w1 ⟨rfl, hb1⟩
    go_wp2_with (first | (go_at_call 8; refine (few_is _ (hR.below hb1) hl HS.out H.out).mono ?_; rintro e w' ⟨rfl, rfl⟩))
    go_ret
    exact ⟨rfl, hb1⟩
  · have H := Lib.hid h
    clear h
    have t1 : decide (60 < o.size) = true := by simpa using h2
    go_enter Try.func3, Try.ntmps3
    go_wp2_with fail
    refine (head_calls _).mono ?_
    rintro e w1 ⟨rfl, hb1⟩
    go_wp2_with (first | (go_at_call 8; refine (few_is _ (hR.below hb1) hl HS.out H.out).mono ?_; rintro e w' ⟨rfl, rfl⟩))
    go_ret
    exact ⟨rfl, hb1⟩

/-- Blocks that a table's calls may turn: its own, and what is new since c. -/
def Own (g c : Nat) (k : Nat) : Prop := k = g ∨ c ≤ k

set_option maxRecDepth 100000 in
set_option maxHeartbeats 2000000 in
theorem ids_some (a : Option Addr) (cap : Nat) (ss : List ByteArray) (o : ByteArray) (id : Int) (w : World) (hR : SRow w a ss) (hf : fewB ss = true) (ho : o.size ≤ 60) :
    Calls Try.prog 3 #[.slice a ss.length cap, .string o, .int .i64 id] w (TrueRet w) := by
  obtain ⟨hl, hk60⟩ := few_sz hf
  have HK60 := Lib.hid hk60
  have HF := Lib.hid hf
  clear hk60 hf
  have t1 : decide (60 < o.size) = false := by simp; omega
  go_enter Try.func3, Try.ntmps3
  go_wp2_with fail
  refine (head_calls _).mono ?_
  rintro e w0 ⟨rfl, hb0⟩
  have hR0 := hR.below hb0
  clear hR
  go_wp2_with (first | (go_at_call 8; refine (few_is _ hR0 (by unfold maxLen; omega) (fun s hs => by obtain ⟨i, hi, rfl⟩ := List.getElem_of_mem hs; have := HK60.out i hi; rw [getD_at hi] at this; unfold maxLen; omega) HF.out).mono ?_; rintro e w' ⟨rfl, rfl⟩))
  refine (new_calls _).mono ?_
  rintro e w1 ⟨rfl, hw1⟩
  have hT1 : Tab (fun k => k = w0.heap.size) w1 w0.heap.size [] := by rw [hw1]; exact tab_new w0 _ rfl
  have hb1 : Below w0.heap.size w0 w1 := by rw [hw1]; exact (Below.refl _ _).alloc (Nat.le_refl _) _
  have hs1 : w1.heap.size = w0.heap.size + 1 := by rw [hw1]; simp
  have hR1 := hR0.below hb1
  obtain ⟨g, hg⟩ : ∃ g, w0.heap.size = g := ⟨_, rfl⟩
  have HG := Lib.hid hg
  rw [hg] at hT1 hs1 ⊢
  have HS1 := Lib.hid hs1
  clear hg hw1 hs1
  go_wp2_with fail
  refine (texts_calls _ _ ss _ hR1 (by omega)).mono ?_
  rintro e w2 ⟨aW, cW, rfl, hW2, hb2, hloc⟩
  have hUl : (uniq ss).length ≤ 60 := Nat.le_trans (uniq_len ss) hl
  obtain ⟨U, hU⟩ : ∃ U, uniq ss = U := ⟨_, rfl⟩
  rw [hU] at hW2 hUl ⊢
  have HU := Lib.hid hU
  clear hU
  have hT2 : Tab (Own g w2.heap.size) w2 g [] := (hT1.below hb2).mono (fun k _ hk => .inl hk)
  have hb02 : Below w0.heap.size w0 w2 := hb1.trans (hb2.mono (by rw [HS1.out, HG.out]; omega))
  have hnW : ∀ x, aW = some x → ¬ Own g w2.heap.size x.block := by
    intro x hx hn
    obtain ⟨h1, h2⟩ := hloc x hx
    rw [HS1.out] at h1
    rcases hn with h | h <;> omega
  have HNW := Lib.hid hnW
  have hgl : g < w2.heap.size := by have := hb2.size; rw [HS1.out] at this; omega
  have HB02 := Lib.hid hb02
  clear hT1 hb1 hb2 hloc hnW hb02 hR1
  have hup : ∀ k, w2.heap.size ≤ k → Own g w2.heap.size k := fun k hk => .inr hk
  have HUP := Lib.hid hup
  clear hup
  go_wp2_with fail
  go_loopw [31] (fun i wr => ∃ k : Nat, k ≤ ss.length ∧ i = .int .i64 k ∧ Tab (Own g w2.heap.size) wr g (uniq (ss.take k)) ∧ Keeps (Own g w2.heap.size) w2 wr)
    (fun i _ => ss.length - (intOf i).toNat)
  case atStart => exact ⟨0, Nat.zero_le _, rfl, hT2, Keeps.refl _ _⟩
  case round =>
    clear hT2
    obtain ⟨k, hk, rfl, hT, hK⟩ := hrel
    have hb2r : Below w0.heap.size w0 wr := HB02.out.trans (hK.below (by rw [HG.out]; omega) (fun k hk => by rw [HG.out]; rcases hk with h | h <;> omega))
    have hWr := hW2.keeps hK HNW.out
    by_cases hlt : k < ss.length
    · obtain ⟨b, off, rfl, hb, hcell⟩ := (hR0.below hb2r).at hlt
      have hsz := HK60.out k hlt
      have P := Lib.hid (place_step hlt)
      have U1 := Lib.hid (uniq_take hlt)
      have hul : (uniq (ss.take k)).length ≤ 60 := Nat.le_trans (uniq_len _) (by simp; omega)
      generalize ss.getD k ByteArray.empty = s at *
      rw [HU.out] at P
      go_wp2_with fail
      refine (id_calls hT s (by unfold maxLen; omega) (by omega) (fun k hk => HUP.out k (Nat.le_trans hK.size hk))).mono ?_
      rintro e w3 ⟨rfl, hT3, hK3⟩
      have hKK := hK.trans hK3
      have hW3 := hW2.keeps hKK HNW.out
      clear hT hK3 hcell hWr hb2r
      have pc : Calls Try.prog 12 #[.slice aW U.length cW, .string s] w3 fun e w' => e = .returned (.int .i64 ((place (adds (uniq (ss.take k)) s) s : Nat) : Int)) ∧ w3 = w' := by
        have h := at_calls aW cW U s w3 hW3 (by omega); rw [P.out] at h; exact h
      have PC := Lib.hid pc
      clear pc P
      rw [← U1.out] at hT3
      generalize place (adds (uniq (ss.take k)) s) s = q at *
      go_wp2_with (first | (go_at_call 12; refine PC.out.mono ?_; rintro e w' ⟨rfl, rfl⟩))
      go_roundw
      case rel => exact ⟨k + 1, by omega, by go_num, hT3, hKK⟩
      case measure => simp [intOf]; omega
    · obtain rfl : k = ss.length := by omega
      rw [List.take_length, HU.out] at hT
      have hbel : Below w.heap.size w wr := hb0.trans (hb2r.mono hb0.size)
      clear hb2r hK hR0 hb0
      have hin : inT U id = true ∨ inT U id = false := by cases inT U id <;> simp
      have hmm : mem U o = true ∨ mem U o = false := by cases mem U o <;> simp
      rcases hin with hin | hin <;> rcases hmm with hmm | hmm
      all_goals
        have fc := find_calls hT o (show o.size ≤ maxLen by unfold maxLen; omega)
        have ac := at_calls aW cW U o wr hWr (by omega)
        rw [placeOr0, hmm] at fc
        rw [placeI, hmm] at ac
        simp only [Bool.false_eq_true, if_true, if_false] at fc ac
        have FC := Lib.hid fc
        have AC := Lib.hid ac
        have HIN := Lib.hid hin
        clear fc ac hmm hin
        generalize place U o = q at *
      · have hj := HIN.out
        simp only [inT, Bool.and_eq_true, decide_eq_true_eq] at hj
        obtain ⟨j, rfl⟩ : ∃ j : Nat, id = (j : Int) := ⟨id.toNat, by omega⟩
        have hjl : j < U.length := by omega
        obtain ⟨b, off, rfl, hb, hcell⟩ := hWr.at hjl
        have tx := text_in hT (j : Int) (by omega) HIN.out
        have hat : atT U (j : Int) = U.getD j ByteArray.empty := by unfold atT; rw [Int.toNat_natCast]
        rw [hat] at tx
        generalize U.getD j ByteArray.empty = t at *
        have TX := Lib.hid tx
        clear tx hat hj hWr
        have ts : (t.toList == t.toList) = true := by simp
        have hq : decide ((0 : Int) ≤ (q : Int)) = true := by simp
        go_wp2_with (first
          | (go_at_call 13; refine FC.out.mono ?_; rintro e w' ⟨rfl, rfl⟩)
          | (go_at_call 12; refine AC.out.mono ?_; rintro e w' ⟨rfl, rfl⟩)
          | (go_at_call 14; refine (len_calls hT).mono ?_; rintro e w' ⟨rfl, rfl⟩)
          | (go_at_call 15; refine TX.out.mono ?_; rintro e w' ⟨rfl, rfl⟩))
        go_ret
        exact ⟨rfl, hbel⟩
      · have hj := HIN.out
        simp only [inT, Bool.and_eq_true, decide_eq_true_eq] at hj
        obtain ⟨j, rfl⟩ : ∃ j : Nat, id = (j : Int) := ⟨id.toNat, by omega⟩
        have hjl : j < U.length := by omega
        obtain ⟨b, off, rfl, hb, hcell⟩ := hWr.at hjl
        have tx := text_in hT (j : Int) (by omega) HIN.out
        have hat : atT U (j : Int) = U.getD j ByteArray.empty := by unfold atT; rw [Int.toNat_natCast]
        rw [hat] at tx
        generalize U.getD j ByteArray.empty = t at *
        have TX := Lib.hid tx
        clear tx hat hj hWr
        have ts : (t.toList == t.toList) = true := by simp
        have hq : decide ((0 : Int) ≤ (q : Int)) = true := by simp
        go_wp2_with (first
          | (go_at_call 13; refine FC.out.mono ?_; rintro e w' ⟨rfl, rfl⟩)
          | (go_at_call 12; refine AC.out.mono ?_; rintro e w' ⟨rfl, rfl⟩)
          | (go_at_call 14; refine (len_calls hT).mono ?_; rintro e w' ⟨rfl, rfl⟩)
          | (go_at_call 15; refine TX.out.mono ?_; rintro e w' ⟨rfl, rfl⟩))
        go_ret
        exact ⟨rfl, hbel⟩
      · have hj := HIN.out
        have tx := text_out hT id (by omega) HIN.out
        have TX := Lib.hid tx
        clear tx
        have hq : decide ((0 : Int) ≤ (q : Int)) = true := by simp
        have hc : id < 0 ∨ (0 ≤ id ∧ (U.length : Int) ≤ id) := by
          simp only [inT, Bool.and_eq_false_iff, decide_eq_false_iff_not] at hj; omega
        clear hj hWr
        rcases hc with hc | ⟨hc, hd⟩
        · have g1 : decide ((0 : Int) ≤ id) = false := by simp; omega
          go_wp2_with (first
            | (go_at_call 13; refine FC.out.mono ?_; rintro e w' ⟨rfl, rfl⟩)
            | (go_at_call 12; refine AC.out.mono ?_; rintro e w' ⟨rfl, rfl⟩)
            | (go_at_call 14; refine (len_calls hT).mono ?_; rintro e w' ⟨rfl, rfl⟩)
            | (go_at_call 15; refine TX.out.mono ?_; rintro e w' ⟨rfl, rfl⟩))
          go_ret
          exact ⟨rfl, hbel⟩
        · have g1 : decide ((0 : Int) ≤ id) = true := by simpa using hc
          have g2 : decide (id < (U.length : Int)) = false := by simp; omega
          go_wp2_with (first
            | (go_at_call 13; refine FC.out.mono ?_; rintro e w' ⟨rfl, rfl⟩)
            | (go_at_call 12; refine AC.out.mono ?_; rintro e w' ⟨rfl, rfl⟩)
            | (go_at_call 14; refine (len_calls hT).mono ?_; rintro e w' ⟨rfl, rfl⟩)
            | (go_at_call 15; refine TX.out.mono ?_; rintro e w' ⟨rfl, rfl⟩))
          go_ret
          exact ⟨rfl, hbel⟩
      · have hj := HIN.out
        have tx := text_out hT id (by omega) HIN.out
        have TX := Lib.hid tx
        clear tx
        have hq : decide ((0 : Int) ≤ (q : Int)) = true := by simp
        have hc : id < 0 ∨ (0 ≤ id ∧ (U.length : Int) ≤ id) := by
          simp only [inT, Bool.and_eq_false_iff, decide_eq_false_iff_not] at hj; omega
        clear hj hWr
        rcases hc with hc | ⟨hc, hd⟩
        · have g1 : decide ((0 : Int) ≤ id) = false := by simp; omega
          go_wp2_with (first
            | (go_at_call 13; refine FC.out.mono ?_; rintro e w' ⟨rfl, rfl⟩)
            | (go_at_call 12; refine AC.out.mono ?_; rintro e w' ⟨rfl, rfl⟩)
            | (go_at_call 14; refine (len_calls hT).mono ?_; rintro e w' ⟨rfl, rfl⟩)
            | (go_at_call 15; refine TX.out.mono ?_; rintro e w' ⟨rfl, rfl⟩))
          go_ret
          exact ⟨rfl, hbel⟩
        · have g1 : decide ((0 : Int) ≤ id) = true := by simpa using hc
          have g2 : decide (id < (U.length : Int)) = false := by simp; omega
          go_wp2_with (first
            | (go_at_call 13; refine FC.out.mono ?_; rintro e w' ⟨rfl, rfl⟩)
            | (go_at_call 12; refine AC.out.mono ?_; rintro e w' ⟨rfl, rfl⟩)
            | (go_at_call 14; refine (len_calls hT).mono ?_; rintro e w' ⟨rfl, rfl⟩)
            | (go_at_call 15; refine TX.out.mono ?_; rintro e w' ⟨rfl, rfl⟩))
          go_ret
          exact ⟨rfl, hbel⟩

theorem ids_walk (a : Option Addr) (cap : Nat) (ss : List ByteArray) (o : ByteArray) (id : Int) (w : World) (hR : SRow w a ss) (hl : ss.length ≤ maxLen) (hsz : ∀ s ∈ ss, s.size ≤ maxLen) (ho : o.size ≤ maxLen) :
    Calls Try.prog 3 #[.slice a ss.length cap, .string o, .int .i64 id] w (TrueRet w) := by
  cases hf : fewB ss
  · exact ids_skip _ _ _ _ _ _ hR hl hsz ho (.inl hf)
  · by_cases h : 60 < o.size
    · exact ids_skip _ _ _ _ _ _ hR hl hsz ho (.inr ⟨hf, h⟩)
    · exact ids_some _ _ _ _ _ _ hR hf (by omega)
end Go.Proofs.Ytplckcnmpnnkgaa
