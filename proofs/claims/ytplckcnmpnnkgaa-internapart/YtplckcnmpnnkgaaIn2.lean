/- The contract of (*Table).ID. -/
import Derived.Test.YtplckcnmpnnkgaaIn1
import Derived.Deep.DeepCutAuto
namespace Go.Proofs.Ytplckcnmpnnkgaa
open Go.RowKit Go.Maps
set_option linter.unusedVariables false
set_option linter.unusedSimpArgs false

def adds (ts : List ByteArray) (s : ByteArray) : List ByteArray := if mem ts s = true then ts else ts ++ [s]
theorem adds_in {ts : List ByteArray} {s : ByteArray} (h : mem ts s = true) : adds ts s = ts := if_pos h
theorem adds_new {ts : List ByteArray} {s : ByteArray} (h : mem ts s = false) : adds ts s = ts ++ [s] := if_neg (by simp [h])

def IdRet (N : Nat → Prop) (ts : List ByteArray) (s : ByteArray) (g : Nat) (w : World) (e : Ending) (w' : World) : Prop :=
  e = .returned (.int .i64 (place (adds ts s) s)) ∧ Tab N w' g (adds ts s) ∧ Keeps N w w'

theorem info9 : (Try.prog.info? 9).map (fun i => (i.zero, i.size, i.bytes)) = some (some (.string ⟨#[]⟩), 1, 16) := by kernel_rfl
theorem ret_i64 {a b : Int} (h : a = b) : Ending.returned (.int .i64 a) = .returned (.int .i64 b) := by rw [h]

theorem row_form {w : World} {v : Value} {n : Nat} {xs : List Value} {B : Nat} {t : TypeId} (h : w.ownsRow B t 1 v n xs) : ∃ a cap, v = .slice a n cap := by
  rcases h.2 with ⟨rfl, h0⟩ | ⟨r, cap, cur, rfl, _⟩
  · rw [h0]; exact ⟨_, _, rfl⟩
  · exact ⟨_, _, rfl⟩
/-- The block of a row of texts is not the table's, nor the map's. -/
theorem row_ne_tab {w : World} {tv : Value} {n : Nat} {xs : List Value} (h : w.ownsRow 0 9 1 tv n xs) {g : Nat} {cs : Array Value} (hg : w.heap[g]? = some (.cells cs 44 (0, 0))) : tv.ownBlock ≠ some g := by
  intro e
  rcases h.2 with ⟨rfl, _⟩ | ⟨r, cap, cur, rfl, _, hr, _⟩
  · simp [Value.ownBlock] at e
  · simp only [Value.ownBlock, Option.some.injEq] at e
    subst e; rw [hg] at hr; simp at hr
theorem row_ne_map {w : World} {tv : Value} {n m : Nat} {xs : List Value} {R : Value → Option (DataW Unit × List MemPlace)} {D : DataW Unit} (h : w.ownsRow 0 9 1 tv n xs) {b : Nat} (hb : w.ownsMap Try.prog 9 R b m D) : tv.ownBlock ≠ some b := by
  intro e
  obtain ⟨es, cl, hb, _⟩ := hb
  rcases h.2 with ⟨rfl, _⟩ | ⟨r, cap, cur, rfl, _, hr, _⟩
  · simp [Value.ownBlock] at e
  · simp only [Value.ownBlock, Option.some.injEq] at e
    subst e; rw [hb] at hr; simp at hr
theorem tab_ne_map {w : World} {m g b : Nat} {cs : Array Value} {R : Value → Option (DataW Unit × List MemPlace)} {D : DataW Unit} (hg : w.heap[g]? = some (.cells cs 44 (0, 0))) (hb : w.ownsMap Try.prog 9 R b m D) : g ≠ b := by
  intro e
  obtain ⟨es, cl, hb, _⟩ := hb
  subst e; rw [hg] at hb; simp at hb

/-- Behind the store into the map, the append, and the store of the new row: the table with one text more. -/
theorem tab_after {N : Nat → Prop} {w0 wC w1 : World} {g b : Nat} {tv v' : Value} {ts : List ByteArray} {s : ByteArray} {D : DataW Unit} {o : Obj}
    (hN : N g) (hbN : N b) (hrN : ∀ k, tv.ownBlock = some k → N k) (hup : ∀ k, w0.heap.size ≤ k → N k) (hk : Keeps N w0 wC)
    (hg : wC.heap[g]? = some (.cells #[.map (some b), tv] 44 (0, 0))) (hrow : wC.ownsRow 0 9 1 tv ts.length (ts.map Value.string))
    (hm : wC.ownsMap Try.prog 9 (plainElem Try.prog 2) b (ts.length + 1) (D.put (key s) (.lit (.int .i64 ts.length)))) (hD : MapReads D ts) (hs : mem ts s = false)
    (hown' : w1.ownsRow 0 9 1 v' (ts.length + 1) (ts.map Value.string ++ [.string s])) (hgrow : (wC.alloc o).grownBy w1 tv.ownBlock) (hloc : v'.ownBlock = tv.ownBlock ∨ v'.ownBlock = some (wC.heap.size + 1)) :
    w1.heap[g]? = some (.cells #[.map (some b), tv] 44 (0, 0)) ∧ Tab N (w1.setCell ⟨g, 1, none⟩ v') g (ts ++ [s]) ∧ Keeps N w0 (w1.setCell ⟨g, 1, none⟩ v') := by
  have hgl : g < wC.heap.size := (Array.getElem?_eq_some_iff.1 hg).1
  have hne := row_ne_tab hrow hg
  have hgA : (wC.alloc o).heap[g]? = some (.cells #[.map (some b), tv] 44 (0, 0)) := (Below.heap_alloc wC o g hgl).trans hg
  have hg1 : w1.heap[g]? = some (.cells #[.map (some b), tv] 44 (0, 0)) := (hgrow.block g (by simp; omega) (Ne.symm hne)).trans hgA
  have hm1 : w1.ownsMap Try.prog 9 (plainElem Try.prog 2) b (ts.length + 1) (D.put (key s) (.lit (.int .i64 ts.length))) := (hm.alloc o).kept hgrow (Ne.symm (row_ne_map hrow hm))
  have hk1 : Keeps N w0 w1 := (hk.alloc o).trans (Keeps.of_grown hgrow hrN)
  have hv' : ∀ k, v'.ownBlock = some k → N k := by
    intro k hk'
    rcases hloc with h | h
    · exact hrN k (h ▸ hk')
    · rw [h] at hk'; cases hk'; exact hup _ (by have := hk.size; omega)
  have hne' := row_ne_tab hown' hg1
  refine ⟨hg1, ⟨hN, .map (some b), v', heap_setCell_same w1 g 1 _ 44 v' hg1, ?_, hv', .inr ⟨b, _, rfl, hbN, ?_, hD.put hs⟩⟩, hk1.setCell hN v'⟩
  · rw [List.length_append, List.map_append]
    refine hown'.kept (row := some g) ⟨rfl, rfl, rfl, by simp, fun k _ hk => heap_setCell_other w1 ⟨g, 1, none⟩ k v' (fun e => hk (by rw [e]))⟩ (.inr hne')
  · rw [List.length_append]
    exact hm1.kept (row := some g) ⟨rfl, rfl, rfl, by simp, fun k _ hk => heap_setCell_other w1 ⟨g, 1, none⟩ k v' (fun e => hk (by rw [e]))⟩ (fun e => tab_ne_map hg1 hm1 (by cases e; rfl))

theorem eqlSome (b : Nat) (w : World) : (binOp .eql 42 (.map (some b)) (.map none)).run Try.prog w = .ok (.bool false) w := by kernel_rfl
theorem eqlNil (w : World) : (binOp .eql 42 (.map none) (.map none)).run Try.prog w = .ok (.bool true) w := by kernel_rfl

/-- Behind the store into the map. -/
theorem after_update {N : Nat → Prop} {w0 w wC : World} {g b : Nat} {tv : Value} {ts : List ByteArray} {D D' : DataW Unit}
    (hg : w.heap[g]? = some (.cells #[.map (some b), tv] 44 (0, 0))) (hrow : w.ownsRow 0 9 1 tv ts.length (ts.map Value.string)) (hown : w.ownsMap Try.prog 9 (plainElem Try.prog 2) b ts.length D)
    (hownC : wC.ownsMap Try.prog 9 (plainElem Try.prog 2) b (ts.length + 1) D') (hgrow : w.grownBy wC (some b)) (hbN : N b) (hk : Keeps N w0 w) :
    Hid (wC.heap[g]? = some (.cells #[.map (some b), tv] 44 (0, 0))) ∧ Hid (wC.ownsRow 0 9 1 tv ts.length (ts.map Value.string)) ∧ Hid (Keeps N w0 wC) ∧ Hid (wC.ownsMap Try.prog 9 (plainElem Try.prog 2) b (ts.length + 1) D') ∧ wC.cell? ⟨g, 1, none⟩ = some tv := by
  have hgl : g < w.heap.size := (Array.getElem?_eq_some_iff.1 hg).1
  have h1 : wC.heap[g]? = some (.cells #[.map (some b), tv] 44 (0, 0)) := (hgrow.block g hgl (fun e => tab_ne_map hg hown (by cases e; rfl))).trans hg
  exact ⟨Lib.hid h1, Lib.hid (hrow.kept hgrow (.inr (row_ne_map hrow hown))), Lib.hid (hk.trans (Keeps.of_grown hgrow (fun k hk => by cases hk; exact hbN))), Lib.hid hownC, by rw [cell_of_row wC g 1 _ 44 (0, 0) h1]; rfl⟩

/-- Behind the making of the map. -/
theorem after_make {N : Nat → Prop} {w : World} {g : Nat} {tv : Value} (hg : w.heap[g]? = some (.cells #[.map none, tv] 44 (0, 0))) (hrow : w.ownsRow 0 9 1 tv 0 []) (hN : N g) :
    ((w.alloc (.map #[] 0)).setCell ⟨g, 0, none⟩ (.map (some w.heap.size))).heap[g]? = some (.cells #[.map (some w.heap.size), tv] 44 (0, 0)) ∧
    ((w.alloc (.map #[] 0)).setCell ⟨g, 0, none⟩ (.map (some w.heap.size))).ownsRow 0 9 1 tv 0 [] ∧
    ((w.alloc (.map #[] 0)).setCell ⟨g, 0, none⟩ (.map (some w.heap.size))).ownsMap Try.prog 9 (plainElem (H := Unit) Try.prog 2) w.heap.size 0 (.map []) ∧
    Keeps N w ((w.alloc (.map #[] 0)).setCell ⟨g, 0, none⟩ (.map (some w.heap.size))) ∧ (w.alloc (.map #[] 0)).heap[g]? = some (.cells #[.map none, tv] 44 (0, 0)) := by
  have hgl : g < w.heap.size := (Array.getElem?_eq_some_iff.1 hg).1
  have hgA : (w.alloc (.map #[] 0)).heap[g]? = some (.cells #[.map none, tv] 44 (0, 0)) := (Below.heap_alloc w _ g hgl).trans hg
  refine ⟨heap_setCell_same _ g 0 _ 44 _ hgA, ?_, ?_, ((Keeps.refl N w).alloc _).setCell hN _, hgA⟩
  · exact (hrow.alloc _).kept (row := some g) ⟨rfl, rfl, rfl, by simp, fun k _ hk => heap_setCell_other _ ⟨g, 0, none⟩ k _ (fun e => hk (by rw [e]))⟩ (.inr (row_ne_tab hrow hg))
  · exact (World.ownsMap_made w Try.prog 9 _).kept (row := some g) ⟨rfl, rfl, rfl, by simp, fun k _ hk => heap_setCell_other _ ⟨g, 0, none⟩ k _ (fun e => hk (by rw [e]))⟩ (fun e => by simp at e; omega)

set_option maxHeartbeats 1000000 in
theorem id_some {N : Nat → Prop} {w : World} {g b : Nat} {tv : Value} {ts : List ByteArray} {D : DataW Unit} (s : ByteArray) (hs : s.size ≤ maxLen) (hl : ts.length ≤ 100000) (hup : ∀ k, w.heap.size ≤ k → N k)
    (hN : N g) (hg : w.heap[g]? = some (.cells #[.map (some b), tv] 44 (0, 0))) (hrow : w.ownsRow 0 9 1 tv ts.length (ts.map Value.string)) (hrN : ∀ k, tv.ownBlock = some k → N k) (hbN : N b)
    (hown : w.ownsMap Try.prog 9 (plainElem Try.prog 2) b ts.length D) (hD : MapReads D ts) :
    Calls Try.prog 11 #[.pointer (some ⟨g, 0, none⟩), .string s] w (IdRet N ts s g w) := by
  have c0 : w.cell? ⟨g, 0, none⟩ = some (.map (some b)) := by rw [cell_of_row w g 0 _ 44 (0, 0) hg]; rfl
  have c1 : w.cell? ⟨g, 1, none⟩ = some tv := by rw [cell_of_row w g 1 _ 44 (0, 0) hg]; rfl
  have hkey : keyOf Try.prog 9 (.string s) = some (key s) := WideMaps.keyOf_string_mk Try.underlying9 hs
  have HK := Lib.hid hkey
  have HG := Lib.hid hg
  have HD := Lib.hid (hD.2 s)
  have HDD := Lib.hid hD
  have HUP := Lib.hid hup
  have HRN := Lib.hid hrN
  clear hkey hg hD hup hrN
  obtain ⟨a, cap, rfl⟩ : ∃ a cap, tv = .slice a ts.length cap := by
    rcases hrow.2 with ⟨rfl, h0⟩ | ⟨r, cap, cur, rfl, _⟩
    · rw [h0]; exact ⟨_, _, rfl⟩
    · exact ⟨_, _, rfl⟩
  by_cases hmem : mem ts s = true
  · have HM := Lib.hid hmem
    clear hmem
    go_enter Try.func11, Try.ntmps11
    go_wp2_with (first | (at_lookup; refine wpList_lookup_own_ok_int _ rfl _ _ 42 rfl 9 2 .i64 law Try.underlying42 Try.underlying2 (zeroE _) b ts.length D rfl hown _ _ rfl HK.out ?_; intro c hat hwc; have HA := Lib.hid hat; clear hat hwc; rw [HD.out.1, HM.out]))
    go_ret
    have hc := lit_inj (HA.out.symm.trans HD.out.2)
    refine ⟨ret_i64 ?_, ?_, Keeps.refl _ _⟩
    · rw [adds_in HM.out, hc, placeOr0, if_pos HM.out]
    · rw [adds_in HM.out]; exact ⟨hN, _, _, HG.out, hrow, HRN.out, .inr ⟨b, D, rfl, hbN, hown, HDD.out⟩⟩
  · have HM : Hid (mem ts s = false) := Lib.hid (by simpa using hmem)
    clear hmem
    obtain ⟨i0, hi, hz0, hz1, hz2⟩ := info_parts info9
    have I := Lib.hid hi
    have Z0 := Lib.hid hz0
    have Z1 := Lib.hid hz1
    have Z2 := Lib.hid hz2
    clear hi hz0 hz1 hz2
    have heq := eqlSome b
    have KW : Keeps N w w := Keeps.refl _ _
    go_enter Try.func11, Try.ntmps11
    go_wp2_with (first
      | (at_lookup; refine wpList_lookup_own_ok_int _ rfl _ _ 42 rfl 9 2 .i64 law Try.underlying42 Try.underlying2 (zeroE _) b ts.length D rfl hown _ _ rfl HK.out ?_; intro c hat hwc; clear hat hwc; rw [HD.out.1, HM.out])
      | (at_mapUpdate; refine wpList_mapUpdate_own _ rfl _ _ _ 42 rfl 9 2 law Try.underlying42 _ b ts.length D rfl hown (by unfold maxLen; omega) _ _ _ rfl rfl HK.out _ [] (plainElem_int Try.underlying2 (WalkArith.wf_i64 (by omega))) ?_; intro wC hownC hgrowC; obtain ⟨HGC, HRC, HKC, HMC, d1⟩ := after_update HG.out hrow hown hownC hgrowC hbN KW; clear hownC hgrowC)
      | (at_builtin; refine wpList_append_own_at _ rfl _ _ 22 rfl 0 9 i0 (.string ⟨#[]⟩) 1 16 Try.underlying22 I.out Z0.out Z1.out Z2.out rfl (by decide) _ _ _ rfl (HRC.out.alloc _) ⟨wC.heap.size, 0, none⟩ 1 1 [.string s] rfl rfl ?c1 ?c2 ?c3 ?c4 ?c5 ?_))
    case c1 =>
      intro j u hj
      match j, hj with
      | 0, hj => simp at hj; subst hj; simp [Addr.add]
    case c2 => intro u hu; simp at hu; subst hu; rfl
    case c3 => unfold maxLen; omega
    case c4 => omega
    case c5 => simp
    intro v' w1 hown' hgrow _ hloc
    obtain ⟨a', cap', rfl⟩ := row_form hown'
    obtain ⟨hg1, hT, hK⟩ := tab_after hN hbN HRN.out HUP.out HKC.out HGC.out HRC.out HMC.out HDD.out HM.out hown' hgrow hloc
    have e1 : w1.cell? ⟨g, 1, none⟩ = some (.slice a ts.length cap) := by rw [cell_of_row w1 g 1 _ 44 (0, 0) hg1]; rfl
    have f1 := frozen_of_row w1 g 1 _ 44 hg1
    clear hown' hgrow hloc hg1 d1
    go_wp2_with fail
    go_ret
    exact ⟨ret_i64 (by rw [adds_new HM.out, place_snoc_new HM.out]), by rw [adds_new HM.out]; exact hT, hK⟩

set_option maxHeartbeats 1000000 in
theorem id_nil {N : Nat → Prop} {w : World} {g : Nat} {tv : Value} (s : ByteArray) (hs : s.size ≤ maxLen) (hup : ∀ k, w.heap.size ≤ k → N k)
    (hN : N g) (hg : w.heap[g]? = some (.cells #[.map none, tv] 44 (0, 0))) (hrow : w.ownsRow 0 9 1 tv 0 []) (hrN : ∀ k, tv.ownBlock = some k → N k) :
    Calls Try.prog 11 #[.pointer (some ⟨g, 0, none⟩), .string s] w (IdRet N [] s g w) := by
  have c0 : w.cell? ⟨g, 0, none⟩ = some (.map none) := by rw [cell_of_row w g 0 _ 44 (0, 0) hg]; rfl
  have f0 := frozen_of_row w g 0 _ 44 hg
  have hkey : keyOf Try.prog 9 (.string s) = some (key s) := WideMaps.keyOf_string_mk Try.underlying9 hs
  have HK := Lib.hid hkey
  have hlook := Maps.look_nil (w := w) true law Try.underlying42 (zeroE w) HK.out
  have hmm := @run_makeMap Try.prog
  have heq := eqlNil
  have HUP := Lib.hid hup
  have HRN := Lib.hid hrN
  have HM : Hid (mem [] s = false) := Lib.hid rfl
  obtain ⟨i0, hi, hz0, hz1, hz2⟩ := info_parts info9
  have I := Lib.hid hi
  have Z0 := Lib.hid hz0
  have Z1 := Lib.hid hz1
  have Z2 := Lib.hid hz2
  clear hi hz0 hz1 hz2 hkey
  obtain ⟨a, cap, rfl⟩ : ∃ a cap, tv = .slice a 0 cap := by
    rcases hrow.2 with ⟨rfl, h0⟩ | ⟨r, cap, cur, rfl, _⟩
    · exact ⟨_, _, rfl⟩
    · exact ⟨_, _, rfl⟩
  obtain ⟨q1, q2, q3, q4, q5⟩ := after_make (N := N) hg hrow hN
  have a0 : (w.alloc (.map #[] 0)).cell? ⟨g, 0, none⟩ = some (.map none) := by rw [cell_of_row _ g 0 _ 44 (0, 0) q5]; rfl
  have af := frozen_of_row _ g 0 _ 44 q5
  have hbN : N w.heap.size := hup _ (Nat.le_refl _)
  clear q5 hup hrN hg
  have Q1 := Lib.hid q1
  have Q2 := Lib.hid q2
  have Q3 := Lib.hid q3
  have Q4 := Lib.hid q4
  clear q1 q2 q3 q4 hrow
  go_enter Try.func11, Try.ntmps11
  go_upto_region 6 with fail
  generalize ((w.alloc (.map #[] 0)).setCell ⟨g, 0, none⟩ (.map (some w.heap.size))) = wB at *
  obtain ⟨b, hb⟩ : ∃ b, w.heap.size = b := ⟨_, rfl⟩
  rw [hb] at Q1 Q3 hbN
  simp only [hb]
  have HB := Lib.hid hb
  clear hb hlook c0 f0 a0 af heq hmm
  have c0 : wB.cell? ⟨g, 0, none⟩ = some (.map (some b)) := by rw [cell_of_row wB g 0 _ 44 (0, 0) Q1.out]; rfl
  have c1 : wB.cell? ⟨g, 1, none⟩ = some (.slice a 0 cap) := by rw [cell_of_row wB g 1 _ 44 (0, 0) Q1.out]; rfl
  go_wp2_with (first
    | (at_mapUpdate; refine wpList_mapUpdate_own _ rfl _ _ _ 42 rfl 9 2 law Try.underlying42 _ b 0 (.map []) rfl Q3.out (by unfold maxLen; omega) _ _ _ rfl rfl HK.out _ [] (plainElem_int Try.underlying2 (WalkArith.wf_i64 (by omega))) ?_; intro wC hownC hgrowC; obtain ⟨HGC, HRC, HKC, HMC, d1⟩ := after_update (ts := []) Q1.out Q2.out Q3.out hownC hgrowC hbN Q4.out; clear hownC hgrowC)
    | (at_builtin; refine wpList_append_own_at _ rfl _ _ 22 rfl 0 9 i0 (.string ⟨#[]⟩) 1 16 Try.underlying22 I.out Z0.out Z1.out Z2.out rfl (by decide) _ _ _ rfl (HRC.out.alloc _) ⟨wC.heap.size, 0, none⟩ 1 1 [.string s] rfl rfl ?c1 ?c2 ?c3 ?c4 ?c5 ?_))
  case c1 =>
    intro j u hj
    match j, hj with
    | 0, hj => simp at hj; subst hj; simp [Addr.add]
  case c2 => intro u hu; simp at hu; subst hu; rfl
  case c3 => simp [maxLen]
  case c4 => simp
  case c5 => simp
  intro v' w1 hown' hgrow _ hloc
  obtain ⟨a', cap', rfl⟩ := row_form hown'
  obtain ⟨hg1, hT, hK⟩ := tab_after (ts := []) hN hbN HRN.out HUP.out HKC.out HGC.out HRC.out HMC.out mapReads_nil HM.out hown' hgrow hloc
  have e1 : w1.cell? ⟨g, 1, none⟩ = some (.slice a 0 cap) := by rw [cell_of_row w1 g 1 _ 44 (0, 0) hg1]; rfl
  have f1 := frozen_of_row w1 g 1 _ 44 hg1
  clear hown' hgrow hloc hg1 d1
  go_wp2_with fail
  go_ret
  exact ⟨ret_i64 (by rw [adds_new HM.out, place_snoc_new HM.out]; rfl), by rw [adds_new HM.out]; exact hT, hK⟩

/-- (*Table).ID: the number of the text; a new one gets the next number. -/
theorem id_calls {N : Nat → Prop} {w : World} {g : Nat} {ts : List ByteArray} (h : Tab N w g ts) (s : ByteArray) (hs : s.size ≤ maxLen) (hl : ts.length ≤ 100000) (hup : ∀ k, w.heap.size ≤ k → N k) :
    Calls Try.prog 11 #[.pointer (some ⟨g, 0, none⟩), .string s] w (IdRet N ts s g w) := by
  obtain ⟨hN, mv, tv, hg, hrow, hrN, ⟨rfl, rfl⟩ | ⟨b, D, rfl, hbN, hown, hD⟩⟩ := h
  · exact id_nil s hs hup hN hg hrow hrN
  · exact id_some s hs hl hup hN hg hrow hrN hbN hown hD
end Go.Proofs.Ytplckcnmpnnkgaa
