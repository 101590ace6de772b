/- What BestAdds needs: mathematics and memory. -/
import Derived.Test.YtcecndjkfdaaaaaBs19
import Derived.Test.YtcecndjkfdaaaaaBs16
import Derived.Test.YtcecndjkfdaaaaaBs15
import Derived.Test.YtcecndjkfdaaaaaSg22
import Derived.Test.YtcecndjkfdaaaaaSg7F
namespace Go.Proofs.Ytcecndjkfdaaaaa
open Go.RowKit Go.Maps
set_option linter.unusedVariables false
set_option linter.unusedSimpArgs false

def lfoldE (great : Bool) (es l : List Ent) : List Ent := l.foldl (fun es e => lputE great es e.1 e.2) es
def lputs (great : Bool) (wd : Nat) (es : List Ent) (rs : List (List Int)) (m : Nat) : List Ent := lfoldE great es ((rs.take m).map (entR wd))
theorem lputs_succ {great : Bool} {wd : Nat} {es : List Ent} {rs : List (List Int)} {m : Nat} (h : m < rs.length) : lputs great wd es rs (m + 1) = lputE great (lputs great wd es rs m) ((rowAt rs m).take wd) ((rowAt rs m)[wd]?.getD 0) := by
  unfold lputs lfoldE
  rw [List.take_succ_eq_append_getElem h, List.map_append, List.foldl_append]
  have : rowAt rs m = rs[m] := by simp [rowAt, h]
  rw [this]; rfl
theorem lfold_len (great : Bool) (es l : List Ent) : (lfoldE great es l).length ≤ es.length + l.length := by
  unfold lfoldE
  induction l generalizing es with
  | nil => simp
  | cons e l ih =>
    rw [List.foldl_cons, List.length_cons]
    have := ih (lputE great es e.1 e.2)
    rw [lput_len] at this
    split at this <;> omega
theorem lputs_len (great : Bool) (wd : Nat) (es : List Ent) (rs : List (List Int)) (m : Nat) : (lputs great wd es rs m).length ≤ es.length + rs.length := by
  have := lfold_len great es ((rs.take m).map (entR wd))
  unfold lputs
  rw [List.length_map, List.length_take] at this
  omega
theorem putB_same {great : Bool} {e1 e2 : List Ent} (h : ∀ k, lookE e1 k = lookE e2 k) (k : List Int) (c : Int) : putB great e1 k c = putB great e2 k c := by unfold putB; rw [h k]
theorem fold_same {great : Bool} {e1 e2 : List Ent} (hd : DistE e2) (h : ∀ k, lookE e1 k = lookE e2 k) (l : List Ent) : ∀ k, lookE (foldE great e1 l) k = lookE (lfoldE great e2 l) k := by
  induction l generalizing e1 e2 with
  | nil => exact h
  | cons e l ih =>
    refine ih (dist_lput hd great e.1 e.2) (fun k => ?_)
    rw [look_put, look_lput hd, putB_same h, h k, h e.1]
theorem news_same {wd : Nat} {e1 e1' e2 e2' : List Ent} (hd1 : DistE e1') (hd2 : DistE e2') (h : ∀ k, lookE e1 k = lookE e2 k) (h' : ∀ k, lookE e1' k = lookE e2' k) : relOf (wd : Int) ((news e1 e1').map rowE) = relOf (wd : Int) ((news e2 e2').map rowE) := by
  have key : ∀ e, e ∈ news e1 e1' ↔ e ∈ news e2 e2' := fun e => by
    obtain ⟨k, c⟩ := e
    unfold news
    rw [List.mem_filter, List.mem_filter, mem_look hd1, mem_look hd2, h', h]
  refine sorted_ext (rel_sorted _ _) (rel_sorted _ _) (fun x => ?_)
  rw [mem_rel, mem_rel]
  simp only [List.mem_map, key]
theorem news_take {es es' : List Ent} {j : Nat} {e : Ent} (h : es'[j]? = some e) : news es (es'.take (j + 1)) = news es (es'.take j) ++ (if lookE es e.1 = some e.2 then [] else [e]) := by
  have hj := (List.getElem?_eq_some_iff.1 h).1
  have he : es'[j] = e := (List.getElem?_eq_some_iff.1 h).2
  unfold news
  rw [List.take_succ_eq_append_getElem hj, List.filter_append, he]
  by_cases hl : lookE es e.1 = some e.2 <;> simp [hl]
/-- None of the rows lies in N. -/
def FP (N : Nat → Prop) (a : Option Addr) (L : List RV) : Prop := L = [] ∨ ((∀ p, a = some p → ¬ N p.block) ∧ ∀ x ∈ L, ∀ p, x.1 = some p → ¬ N p.block)
theorem rrow_fp {N : Nat → Prop} {w w' : World} {a : Option Addr} {L : List RV} (h : RRow w a L) (hk : Keeps N w w') (hf : FP N a L) : RRow w' a L := by
  rcases hf with rfl | ⟨h1, h2⟩
  · exact ⟨.inl rfl, fun x hx => by cases hx⟩
  · refine ⟨?_, fun x hx => ⟨(h.2 x hx).1.keeps hk (fun p hp => h2 x hx p hp), (h.2 x hx).2⟩⟩
    rcases h.1 with h0 | ⟨b, off, ha, hlt, hc⟩
    · exact .inl h0
    · exact .inr ⟨b, off, ha, Nat.lt_of_lt_of_le hlt hk.size, fun i hi => (World.cell?_of_block (a := ⟨b, off + i, none⟩) (hk.block b hlt (h1 _ ha))).trans (hc i hi)⟩
theorem RE.keeps {N : Nat → Prop} {w w' : World} {a : Option Addr} {wd : Nat} {es : List Ent} {L : List RV} (h : RE w a wd es L) (hk : Keeps N w w') (hf : FP N a L) : RE w' a wd es L := ⟨rrow_fp h.rr hk hf, h.cont, h.ok⟩
theorem RE.lt {w : World} {a : Option Addr} {wd : Nat} {es : List Ent} {L : List RV} (h : RE w a wd es L) : L = [] ∨ ((∀ p, a = some p → p.block < w.heap.size) ∧ ∀ x ∈ L, ∀ p, x.1 = some p → p.block < w.heap.size) := by
  rcases h.rr.1 with h0 | ⟨b, off, ha, hlt, _⟩
  · exact .inl h0
  · refine .inr ⟨fun p hp => by rw [ha] at hp; cases hp; exact hlt, fun x hx p hp => ?_⟩
    have h1 : x.2.1 ∈ L.map (·.2.1) := List.mem_map_of_mem hx
    rw [h.cont] at h1
    obtain ⟨e, _, e2⟩ := List.mem_map.1 h1
    exact (h.rr.2 x hx).1.lt (by rw [← e2]; simp [rowE]) p hp
/-- A later, greater N: what lay before stays out of it. -/
theorem FP.more {N N' : Nat → Prop} {w : World} {a : Option Addr} {wd : Nat} {es : List Ent} {L : List RV} (h : FP N a L) (hr : RE w a wd es L) {S : Nat} (hS : w.heap.size ≤ S) (hn : ∀ k, N' k → N k ∨ S ≤ k) : FP N' a L := by
  rcases h with h | ⟨h1, h2⟩
  · exact .inl h
  · rcases hr.lt with h0 | ⟨l1, l2⟩
    · exact .inl h0
    · refine .inr ⟨fun p hp hN => ?_, fun x hx p hp hN => ?_⟩
      · rcases hn _ hN with h3 | h3
        · exact h1 p hp h3
        · have := l1 p hp; omega
      · rcases hn _ hN with h3 | h3
        · exact h2 x hx p hp h3
        · have := l2 x hx p hp; omega
/-- Behind a put by the law. -/
theorem FP.lput {N : Nat → Prop} {a a' : Option Addr} {L L' : List RV} {S : Nat} (h : FP N a L) (hN : ∀ k, N k → k < S) (ha : a' = a ∨ ∀ p, a' = some p → S ≤ p.block) (hx : ∀ x ∈ L', x ∈ L ∨ ∀ p, x.1 = some p → S ≤ p.block) (hne : L = [] → a' = a → L' = []) : FP N a' L' := by
  by_cases h0 : L' = []
  · exact .inl h0
  · refine .inr ⟨fun p hp hn => ?_, fun x hx' p hp hn => ?_⟩
    · rcases ha with e | e
      · rcases h with h1 | ⟨h1, _⟩
        · exact h0 (hne h1 e)
        · exact h1 p (e ▸ hp) hn
      · have h1 := e p hp; have h2 := hN _ hn; omega
    · rcases hx x hx' with h1 | h1
      · rcases h with h2 | ⟨_, h2⟩
        · subst h2; cases h1
        · exact h2 x h1 p hp hn
      · have h3 := h1 p hp; have h2 := hN _ hn; omega
theorem width4 (x : Int) : ∃ wd : Nat, wd ≤ 3 ∧ wrap64 ((IntKind.u64.wrap x).tmod 4) = (wd : Int) := by
  have h1 : 0 ≤ IntKind.u64.wrap x := by simp [IntKind.wrap, IntKind.bits, IntKind.signed]; omega
  have h2 : (IntKind.u64.wrap x).tmod 4 = IntKind.u64.wrap x % 4 := Int.tmod_eq_emod_of_nonneg h1
  rw [h2]
  obtain ⟨y, hy⟩ : ∃ y, IntKind.u64.wrap x % 4 = y := ⟨_, rfl⟩
  have h3 : 0 ≤ y ∧ y < 4 := by omega
  rw [hy]
  exact ⟨y.toNat, by omega, by unfold wrap64; omega⟩
/-- Lists of lists of rows. -/
abbrev TV := Option Addr × List RV × Nat
def atT (T : List TV) (i : Nat) : TV := T[i]?.getD (none, [], 0)
theorem atT_mem {T : List TV} {i : Nat} (h : i < T.length) : atT T i ∈ T := by simp only [atT, List.getElem?_eq_getElem h, Option.getD_some]; exact List.getElem_mem h
structure TArgs (w : World) (a : Option Addr) (T : List TV) : Prop where
  cells : T = [] ∨ ∃ b off, a = some ⟨b, off, none⟩ ∧ b < w.heap.size ∧ ∀ i, i < T.length → w.cell? ⟨b, off + i, none⟩ = some (.slice (atT T i).1 (atT T i).2.1.length (atT T i).2.2)
  rows : ∀ x ∈ T, NestArgs w x.1 x.2.1 ∧ ∀ y ∈ x.2.1, InRange y.2.1
  len : T.length ≤ maxLen
theorem TArgs.at {w W : World} {B : Nat} {a : Option Addr} {T : List TV} (h : TArgs w a T) (hB : w.heap.size = B) (hb : Below B w W) {i : Nat} (hi : i < T.length) :
    ∃ b off, a = some ⟨b, off, none⟩ ∧ W.cell? ⟨b, off + i, none⟩ = some (.slice (atT T i).1 (atT T i).2.1.length (atT T i).2.2) := by
  rcases h.cells with h0 | ⟨b, off, ha, hlt, hc⟩
  · subst h0; simp at hi
  · exact ⟨b, off, ha, (hb.cell (p := ⟨b, off + i, none⟩) (by rw [← hB]; exact hlt)).trans (hc i hi)⟩
/-- The rows of the law: none lies in N, all lie in the world. -/
structure FQ (W : World) (N : Nat → Prop) (a : Option Addr) (L : List RV) : Prop where
  ad : ∀ p, a = some p → ¬ N p.block ∧ p.block < W.heap.size
  el : ∀ x ∈ L, ∀ p, x.1 = some p → ¬ N p.block ∧ p.block < W.heap.size
theorem FQ.fp {W : World} {N : Nat → Prop} {a : Option Addr} {L : List RV} (h : FQ W N a L) : FP N a L := .inr ⟨fun p hp => (h.ad p hp).1, fun x hx p hp => (h.el x hx p hp).1⟩
theorem FQ.more {W W' : World} {N N' : Nat → Prop} {a : Option Addr} {L : List RV} (h : FQ W N a L) (hs : W.heap.size ≤ W'.heap.size) (hn : ∀ k, N' k → N k ∨ W.heap.size ≤ k) : FQ W' N' a L :=
  ⟨fun p hp => ⟨fun hN => by
      have h1 := h.ad p hp
      rcases hn _ hN with h2 | h2
      · exact h1.1 h2
      · omega, by have := (h.ad p hp).2; omega⟩,
   fun x hx p hp => ⟨fun hN => by
      have h1 := h.el x hx p hp
      rcases hn _ hN with h2 | h2
      · exact h1.1 h2
      · omega, by have := (h.el x hx p hp).2; omega⟩⟩
theorem FQ.grow {W W' : World} {N : Nat → Prop} {a : Option Addr} {L : List RV} (h : FQ W N a L) (hs : W.heap.size ≤ W'.heap.size) : FQ W' N a L := h.more hs (fun k hk => .inl hk)
theorem lput_ne (great : Bool) (es : List Ent) (k : List Int) (c : Int) : lputE great es k c ≠ [] := fun h => by
  have h1 := lput_len great es k c
  rw [h] at h1
  cases es with
  | nil => simp [lookE] at h1
  | cons e es => (rw [List.length_cons, List.length_nil] at h1; omega)
theorem FQ.lput {W W' : World} {N : Nat → Prop} {a a' : Option Addr} {L L' : List RV} {wd : Nat} {great : Bool} {es : List Ent} {k : List Int} {c : Int} (h : FQ W N a L) (hN : ∀ k, N k → k < W.heap.size) (hs : W.heap.size ≤ W'.heap.size) (hr : RE W' a' wd (lputE great es k c) L') (ha : a' = a ∨ ∀ p, a' = some p → W.heap.size ≤ p.block) (hx : ∀ x ∈ L', x ∈ L ∨ ∀ p, x.1 = some p → W.heap.size ≤ p.block) : FQ W' N a' L' := by
  have hl := hr.lt
  have hne : L' ≠ [] := fun h0 => lput_ne great es k c (List.length_eq_zero_iff.1 (by rw [← hr.len, h0]; rfl))
  rcases hl with h0 | ⟨l1, l2⟩
  · exact (hne h0).elim
  · refine ⟨fun p hp => ⟨fun hn => ?_, l1 p hp⟩, fun x hx' p hp => ⟨fun hn => ?_, l2 x hx' p hp⟩⟩
    · rcases ha with e | e
      · exact (h.ad p (e ▸ hp)).1 hn
      · have h1 := e p hp; have h2 := hN _ hn; omega
    · rcases hx x hx' with h1 | h1
      · exact (h.el x h1 p hp).1 hn
      · have h3 := h1 p hp; have h2 := hN _ hn; omega
end Go.Proofs.Ytcecndjkfdaaaaa
