/- addNew: a row of texts and the set of them, grown by those that are new. Written by mkszm.py. -/
import Derived.Test.YtaglbeokecbihaaDoorSzC
import Derived.Maps.OwnSet
import Derived.Maps.OwnOps
import Derived.Maps.OwnIn
namespace Go.Proofs.YtaglbeokecbihaaDoor
open Go.RowKit Go.Maps
set_option linter.unusedVariables false
set_option linter.unusedSimpArgs false

abbrev key (s : ByteArray) : Lit := .string s.data.toList
theorem key_ne {s t : ByteArray} (h : s ≠ t) : key s ≠ key t := by
  intro e
  apply h
  simp only [key, Lit.string.injEq] at e
  cases s; cases t; simp only [ByteArray.mk.injEq]; exact Array.toList_inj.1 e
theorem law9 : Keyed Tryd.prog 9 := string_keyed Tryd.underlying9
theorem zeroU (w : World) : (zeroValue 115).run Tryd.prog w = .ok (.agg #[]) w := by kernel_rfl
def mem : List ByteArray → ByteArray → Bool
  | [], _ => false
  | t :: ts, s => decide (t = s) || mem ts s
theorem mem_snoc (ts : List ByteArray) (t s : ByteArray) : mem (ts ++ [t]) s = (mem ts s || decide (t = s)) := by
  induction ts with
  | nil => simp [mem]
  | cons x ts ih => simp [mem, ih, Bool.or_assoc]
/-- What is in the map: the texts ts. -/
def MapHas (D : DataW Unit) (ts : List ByteArray) : Prop := IsMap D ∧ ∀ s : ByteArray, has D (key s) = mem ts s
theorem mapHas_nil : MapHas (.map []) [] := ⟨isMap_empty, fun s => by simp [has, mem]⟩
theorem MapHas.put {D : DataW Unit} {ts : List ByteArray} (h : MapHas D ts) (s : ByteArray) : MapHas (D.put (key s) (.agg [])) (ts ++ [s]) := by
  refine ⟨h.1.put _ _, fun t => ?_⟩
  by_cases e : t = s
  · subst e
    rw [has_put_same h.1 (show WideAt.IsKeyLit (key t) from True.intro), mem_snoc]; simp
  · have e' : ¬ s = t := fun h => e h.symm
    rw [has_put_other (key_ne e), h.2 t, mem_snoc]; simp [e']
def adds (ts : List ByteArray) (s : ByteArray) : List ByteArray := if mem ts s = true then ts else ts ++ [s]
def news (ts ns : List ByteArray) : List ByteArray := ns.foldl adds ts
theorem adds_len (ts : List ByteArray) (s : ByteArray) : (adds ts s).length ≤ ts.length + 1 := by unfold adds; split <;> simp
theorem news_len : ∀ (ns ts : List ByteArray), (news ts ns).length ≤ ts.length + ns.length
  | [], ts => by simp [news]
  | n :: ns, ts => by have h1 := news_len ns (adds ts n); have h2 := adds_len ts n; simp only [news, List.foldl_cons, List.length_cons] at *; omega
theorem news_app (ts a b : List ByteArray) : news ts (a ++ b) = news (news ts a) b := by simp [news]
theorem news_take {ts ns : List ByteArray} {k : Nat} (h : k < ns.length) : news ts (ns.take (k + 1)) = adds (news ts (ns.take k)) (sAt ns k) := by
  rw [List.take_succ_eq_append_getElem h, news_app, ← sAt_get h]; rfl
theorem own_ne_map {w : World} {base : Nat} {t : TypeId} {k n m : Nat} {v : Value} {xs : List Value} {R : Value → Option (DataW Unit × List MemPlace)} {D : DataW Unit} (h : w.ownsRow base t k v n xs) {b : Nat} {kt : TypeId} (hb : w.ownsMap Tryd.prog kt R b m D) : v.ownBlock ≠ some b := by
  intro e
  obtain ⟨es, cl, hb, _⟩ := hb
  rcases h.2 with ⟨rfl, _⟩ | ⟨r, cap, cur, rfl, _, hr, _⟩
  · simp [Value.ownBlock] at e
  · simp only [Value.ownBlock, Option.some.injEq] at e
    subst e; rw [hb] at hr; simp at hr
theorem map_kept {w w' : World} {kt : TypeId} {R : Value → Option (DataW Unit × List MemPlace)} {b n : Nat} {D : DataW Unit} (h : w.ownsMap Tryd.prog kt R b n D) (hk : w'.heap[b]? = w.heap[b]?) : w'.ownsMap Tryd.prog kt R b n D := by
  obtain ⟨es, clock, h1, hrest⟩ := h
  exact ⟨es, clock, hk.trans h1, hrest⟩
theorem map_lt {w : World} {kt : TypeId} {R : Value → Option (DataW Unit × List MemPlace)} {b n : Nat} {D : DataW Unit} (h : w.ownsMap Tryd.prog kt R b n D) : b < w.heap.size := by
  obtain ⟨es, clock, h1, _⟩ := h
  exact (Array.getElem?_eq_some_iff.1 h1).1
/-- The row v and the set in block m hold the texts ts; what lies before L is as it was in w; what lies from L on and before F, but the row and the set, too. -/
structure AN (L F m : Nat) (w : World) (v : Value) (ts : List ByteArray) (W : World) : Prop where
  bel : Below L w W
  own : SO L W v ts
  old : ∀ b, v.ownBlock = some b → b < F ∨ w.heap.size ≤ b
  map : ∃ D, W.ownsMap Tryd.prog 9 unitElem m ts.length D ∧ MapHas D ts
  kept : ∀ k, F ≤ k → k < w.heap.size → W.heap[k]? = w.heap[k]?
  sz : w.heap.size ≤ W.heap.size
  mF : L ≤ m ∧ m < F ∧ F ≤ w.heap.size
/-- The row and the set have grown by the texts ns. -/
def AnRet (L F m : Nat) (w : World) (us : List ByteArray) (e : Ending) (w' : World) : Prop := ∃ v', e = .returned v' ∧ AN L F m w v' us w'
theorem AN.alloc {L F m : Nat} {w : World} {v : Value} {ts : List ByteArray} {W : World} (h : AN L F m w v ts W) (o : Obj) : AN L F m w v ts (W.alloc o) := by
  have hb : Below W.heap.size W (W.alloc o) := (Below.refl _ _).alloc (Nat.le_refl _) o
  have hs := h.sz
  have hm := h.mF
  obtain ⟨D, hD, hT⟩ := h.map
  exact ⟨h.bel.alloc (by omega) o, h.own.below hb, h.old, ⟨D, map_kept hD (hb.block _ (map_lt hD)), hT⟩, fun k h1 h2 => (hb.block k (by omega)).trans (h.kept k h1 h2), Nat.le_trans hs hb.size, hm⟩
/-- Behind the store into the set and the append to the row. -/
theorem AN.add {L F m : Nat} {w : World} {v : Value} {ts : List ByteArray} {W W1 : World} (h : AN L F m w v ts W) (s : ByteArray) {D : DataW Unit} {n : Nat} (hD : W1.ownsMap Tryd.prog 9 unitElem m (ts.length + 1) (D.put (key s) (.agg []))) (hT : MapHas D ts) (hg : W.grownBy W1 (some m)) (hl : ts.length + 1 ≤ 100000) {H : Nat} (hH : W1.heap.size = H) :
    ∃ v' W', (appM #[73, 73] 73 #[v, .slice (some ⟨H, 0, none⟩) 1 1]).run Tryd.prog (W1.alloc (.cells #[.string s] 9)) = .ok v' W' ∧ AN L F m w v' (ts ++ [s]) W' := by
  obtain ⟨D0, hD0, _⟩ := h.map
  have hs := h.sz
  have hm := h.mF
  have hne := own_ne_map h.own hD0
  have ho1 : SO L W1 v ts := World.ownsRow.kept h.own hg (.inr hne)
  have ba : Below W1.heap.size W1 (W1.alloc (.cells #[.string s] 9)) := (Below.refl _ _).alloc (Nat.le_refl _) _
  have hsa : (W1.alloc (.cells #[.string s] 9)).heap.size = W1.heap.size + 1 := by simp
  have s1 := hg.size
  obtain ⟨v', W', hr, hown, hgr, hat⟩ := app_ss (ho1.below ba) (so_one L W1 s hH (by omega)) hl (by rw [hsa]; omega)
  have hd2 := map_kept hD (ba.block _ (map_lt hD))
  have hne2 := own_ne_map (ho1.below ba) hd2
  have s2 := hgr.size
  refine ⟨v', W', hr, ⟨((h.bel.grown hg (by omega) (fun k e => by cases e; exact hm.1)).alloc (by omega) _).grown hgr (by rw [hsa]; omega) (fun k e => ((ho1.below ba).lt k e).1), hown, fun b hb => ?_, ⟨_, map_kept (by rw [List.length_append]; exact hd2) (hgr.block _ (map_lt hd2) (fun e => hne2 e.symm)), hT.put s⟩, fun k h1 h2 => ?_, by omega, hm⟩⟩
  · rcases hat b hb with h9 | h9
    · exact h.old b h9
    · exact .inr (by omega)
  · rw [hgr.block k (by omega) (fun e => by rcases h.old k e.symm with h9 | h9 <;> omega), ba.block k (by omega), hg.block k (by omega) (fun e => by cases e; omega)]
    exact h.kept k h1 h2
attribute [local go_sem ↓] app_rule
set_option maxRecDepth 100000 in
set_option maxHeartbeats 2000000 in
/-- addNew. -/
theorem addNew_calls (L F m : Nat) (v : Value) (ts : List ByteArray) (w : World) (h : AN L F m w v ts w) (z : Value) (ns : List ByteArray) (hz : SO F w z ns) (hl : ts.length + ns.length ≤ 10000) (hsz : ∀ s ∈ ns, s.size ≤ 1000) :
    Calls Tryd.prog 48 #[v, .map (some m), z] w (AnRet L F m w (news ts ns)) := by
  obtain ⟨a, c, rfl, _⟩ := hz.row
  have HZ := Lib.hid hz
  have HS := Lib.hid hsz
  have H0 : Hid (AN L F m w v (news ts (ns.take 0)) w) := Lib.hid h
  obtain ⟨n, hn⟩ : ∃ n, ns.length = n := ⟨_, rfl⟩
  have HN := Lib.hid hn
  rw [hn] at hl ⊢
  clear h hz hsz hn
  go_enter Tryd.func48, Tryd.ntmps48
  go_wp2_with fail
  go_loopw [0, 13] (fun u i wr => ∃ (k : Nat) (x : Value), k ≤ n ∧ i = .int .i64 k ∧ x = u ∧ Hid (AN L F m w x (news ts (ns.take k)) wr)) (fun _ i _ => n - (intOf i).toNat)
  case atStart => exact ⟨0, _, Nat.zero_le _, rfl, rfl, H0⟩
  case round =>
    obtain ⟨k, x, hk, rfl, rfl, HA⟩ := hrel
    by_cases hlt : k < n
    · have hlT : k < ns.length := by rw [HN.out]; exact hlt
      have ZR : SO F wr (.slice a n c) ns := by
        refine owns_on (by have := HZ.out; unfold SO at this; rw [HN.out] at this ⊢; exact this) (fun r h1 h2 => HA.out.kept r h1 h2)
      obtain ⟨a2, c2, e2, hrow⟩ := ZR.row
      simp only [Value.slice.injEq] at e2
      obtain ⟨rfl, e3, rfl⟩ := e2
      clear e3
      obtain ⟨g, rfl, f0⟩ := hrow.at (Below.refl _ _) hlT
      have TS := Lib.hid (news_take (ts := ts) hlT)
      have LL : Hid ((news ts (ns.take k)).length + 1 ≤ 100000) := Lib.hid (by have := news_len (ns.take k) ts; rw [List.length_take] at this; omega)
      have SS : Hid ((sAt ns k).size ≤ 1000) := Lib.hid (HS.out _ (by rw [sAt_get hlT]; exact List.getElem_mem _))
      clear ZR hrow
      generalize news ts (ns.take k) = acc at *
      generalize sAt ns k = s at *
      obtain ⟨D, hD, hT⟩ := HA.out.map
      have KS : Hid (keyOf Tryd.prog 9 (.string s) = some (key s)) := Lib.hid (WideMaps.keyOf_string_mk Tryd.underlying9 (by have := SS.out; unfold maxLen; omega))
      have HAS := Lib.hid (hT.2 s)
      have A1 := Lib.hid (HA.out.alloc (.cells #[] 115))
      have hm := HA.out.mF
      have hD2 : (wr.alloc (.cells #[] 115)).ownsMap Tryd.prog 9 unitElem m acc.length D := map_kept hD (((Below.refl wr.heap.size wr).alloc (Nat.le_refl _) (.cells #[] 115)).block m (map_lt hD))
      have HD := Lib.hid hD
      have HD2 := Lib.hid hD2
      have HT := Lib.hid hT
      have hbm : acc.length < maxLen := by have := LL.out; unfold maxLen; omega
      have HBM := Lib.hid hbm
      clear hD hD2 hT hm hbm
      cases hmem : mem acc s with
      | true =>
        rw [hmem] at HAS
        have A8 : Hid (AN L F m w x (news ts (ns.take (k + 1))) (wr.alloc (.cells #[] 115))) := Lib.hid (by rw [TS.out, adds, if_pos hmem]; exact A1.out)
        clear hmem
        go_wp2_with (at_lookup; refine wpList_lookup_own_unit _ rfl _ _ 107 rfl 9 115 law9 Tryd.underlying107 (zeroU _) m _ D rfl HD.out _ _ rfl KS.out ?_; rw [HAS.out])
        go_roundw
        case rel => exact ⟨k + 1, _, by omega, by go_num, rfl, A8⟩
        case measure => simp [intOf]; omega
      | false =>
        rw [hmem] at HAS
        have TS2 : Hid (news ts (ns.take (k + 1)) = acc ++ [s]) := Lib.hid (by rw [TS.out, adds, if_neg (by rw [hmem]; simp)])
        clear hmem
        go_wp2_with (first | (at_lookup; refine wpList_lookup_own_unit _ rfl _ _ 107 rfl 9 115 law9 Tryd.underlying107 (zeroU _) m _ D rfl HD.out _ _ rfl KS.out ?_; rw [HAS.out]) | (at_mapUpdate; refine wpList_mapUpdate_own _ rfl _ _ _ 107 rfl 9 115 law9 Tryd.underlying107 unitElem m _ D rfl HD2.out HBM.out _ _ _ rfl rfl KS.out (.agg []) [] unitElem_mk ?_))
        intro W1 hown1 hgrow1
        obtain ⟨v', w7, hrun, A7⟩ := A1.out.add s (n := 0) hown1 HT.out hgrow1 LL.out (H := W1.heap.size) rfl
        have A8 : Hid (AN L F m w v' (news ts (ns.take (k + 1))) w7) := Lib.hid (by rw [TS2.out]; exact A7)
        clear hown1 hgrow1 A7
        go_wp2_with fail
        go_roundw
        case rel => exact ⟨k + 1, _, by omega, by go_num, rfl, A8⟩
        case measure => simp [intOf]; omega
    · obtain rfl : k = n := by omega
      have TL : Hid (ns.take k = ns) := Lib.hid (List.take_of_length_le (by rw [HN.out]; omega))
      rw [TL.out] at HA
      go_wp2_with fail
      go_ret
      exact ⟨_, rfl, HA.out⟩
end Go.Proofs.YtaglbeokecbihaaDoor
