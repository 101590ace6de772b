/- Contract of index's put. -/
import Derived.Test.YtcecndjkfdaaaaaDoorIx3
namespace Go.Proofs.YtcecndjkfdaaaaaDoor
open Go.RowKit
set_option linter.unusedVariables false
set_option linter.unusedSimpArgs false

/-- The blocks that an index writes. -/
def IxN (g bs bn : Nat) (b : Nat) : Prop := b = g ∨ b = bs ∨ b = bn
/-- An index in memory, to be written. -/
structure IxW (N : Nat → Prop) (B : Nat) (w : World) (g bs bn : Nat) (ca : Option Addr) (cc : Nat) (K : List RV) (sl nx : List Int) (cnt : Nat) : Prop where
  obj : w.heap[g]? = some (.cells #[.slice ca K.length cc, .slice (some ⟨bs, 0, none⟩) sl.length sl.length, .slice (some ⟨bn, 0, none⟩) nx.length nx.length, .int .i64 cnt] 74 (0, 0))
  cols : ∀ W, Keeps N w W → RRow W ca K
  hN : ∀ b, IxN g bs bn b → N b
  o1 : w.ownsRow B 3 1 (.slice (some ⟨bs, 0, none⟩) sl.length sl.length) sl.length (sl.map (Value.int .i64))
  o2 : w.ownsRow B 3 1 (.slice (some ⟨bn, 0, none⟩) nx.length nx.length) nx.length (nx.map (Value.int .i64))
  n1 : g ≠ bs
  n2 : g ≠ bn
  n3 : bs ≠ bn
theorem blk_put3 {w : World} {g : Nat} {a b c d u : Value} {t : TypeId} (h : w.heap[g]? = some (.cells #[a, b, c, d] t (0, 0))) : (w.setCell ⟨g, 3, none⟩ u).heap[g]? = some (.cells #[a, b, c, u] t (0, 0)) := by
  rw [heap_setCell_same w g 3 _ t u h]; rfl
theorem blk_put0 {w : World} {g : Nat} {a b c d u : Value} {t : TypeId} (h : w.heap[g]? = some (.cells #[a, b, c, d] t (0, 0))) : (w.setCell ⟨g, 0, none⟩ u).heap[g]? = some (.cells #[u, b, c, d] t (0, 0)) := by
  rw [heap_setCell_same w g 0 _ t u h]; rfl
variable {N : Nat → Prop} {B : Nat} {w : World} {g bs bn : Nat} {ca : Option Addr} {cc : Nat} {K : List RV} {sl nx : List Int} {cnt : Nat}
theorem IxW.read (h : IxW N B w g bs bn ca cc K sl nx cnt) : IxR w g K sl nx cnt := by
  obtain ⟨a1, c1, e1, r1⟩ := row_of_owns h.o1
  obtain ⟨a2, c2, e2, r2⟩ := row_of_owns h.o2
  cases e1; cases e2
  exact ⟨ca, cc, _, _, _, _, h.obj, h.cols _ (Keeps.refl _ _), r1, r2⟩
theorem IxW.drewN (h : IxW N B w g bs bn ca cc K sl nx cnt) (q : Nat) : IxW N B (w.drewN q) g bs bn ca cc K sl nx cnt :=
  ⟨h.obj, fun W hW => h.cols W ((Keeps.of_below (below_drewN (Below.refl _ _) q)).trans hW), h.hN, h.o1, h.o2, h.n1, h.n2, h.n3⟩
theorem Keeps.drew {N : Nat → Prop} {a b : World} (h : Keeps N a b) : Keeps N a b.drew := ⟨h.os, h.tape, h.output, h.size, h.block⟩
theorem IxW.drew (h : IxW N B w g bs bn ca cc K sl nx cnt) : IxW N B w.drew g bs bn ca cc K sl nx cnt :=
  ⟨h.obj, fun W hW => h.cols W ((Keeps.refl _ w).drew.trans hW), h.hN, h.o1, h.o2, h.n1, h.n2, h.n3⟩
theorem IxW.count (h : IxW N B w g bs bn ca cc K sl nx cnt) (c : Nat) : IxW N B (w.setCell ⟨g, 3, none⟩ (.int .i64 c)) g bs bn ca cc K sl nx c :=
  have k : Keeps (fun b => b = g) w (w.setCell ⟨g, 3, none⟩ (.int .i64 c)) := (Keeps.refl (fun b => b = g) w).setCell (p := ⟨g, 3, none⟩) rfl _
  ⟨blk_put3 h.obj, fun W hW => h.cols W ((k.mono (fun b _ hb => h.hN b (.inl hb))).trans hW), h.hN, owns_keeps h.o1 k (fun b hb e => by cases hb; exact h.n1 e.symm), owns_keeps h.o2 k (fun b hb e => by cases hb; exact h.n2 e.symm), h.n1, h.n2, h.n3⟩
theorem IxW.next (h : IxW N B w g bs bn ca cc K sl nx cnt) (r : Nat) (v : Int) : IxW N B (w.setCell ⟨bn, r, none⟩ (.int .i64 v)) g bs bn ca cc K sl (nx.set r v) cnt :=
  have k : Keeps (fun b => b = bn) w (w.setCell ⟨bn, r, none⟩ (.int .i64 v)) := (Keeps.refl (fun b => b = bn) w).setCell (p := ⟨bn, r, none⟩) rfl _
  ⟨by rw [List.length_set]; exact (Below.heap_setCell _ _ _ _ h.n2).trans h.obj, fun W hW => h.cols W ((k.mono (fun b _ hb => h.hN b (.inr (.inr hb)))).trans hW), h.hN, owns_keeps h.o1 k (fun b hb e => by cases hb; exact h.n3 e), by have := (h.o2.stored r (.int .i64 v)).1; rw [← List.map_set] at this; rw [List.length_set]; exact this, h.n1, h.n2, h.n3⟩
theorem IxW.slot (h : IxW N B w g bs bn ca cc K sl nx cnt) (r : Nat) (v : Int) : IxW N B (w.setCell ⟨bs, r, none⟩ (.int .i64 v)) g bs bn ca cc K (sl.set r v) nx cnt :=
  have k : Keeps (fun b => b = bs) w (w.setCell ⟨bs, r, none⟩ (.int .i64 v)) := (Keeps.refl (fun b => b = bs) w).setCell (p := ⟨bs, r, none⟩) rfl _
  ⟨by rw [List.length_set]; exact (Below.heap_setCell _ _ _ _ h.n1).trans h.obj, fun W hW => h.cols W ((k.mono (fun b _ hb => h.hN b (.inr (.inl hb)))).trans hW), h.hN, by have := (h.o1.stored r (.int .i64 v)).1; rw [← List.map_set] at this; rw [List.length_set]; exact this, owns_keeps h.o2 k (fun b hb e => by cases hb; exact h.n3 e.symm), h.n1, h.n2, h.n3⟩

/-- What put leaves. -/
def PutRet (N : Nat → Prop) (B : Nat) (w : World) (g bs bn : Nat) (ca : Option Addr) (cc : Nat) (K : List RV) (sl nx : List Int) (cnt n M r : Nat) (e : Ending) (w' : World) : Prop :=
  e = .returned (.tuple #[]) ∧ ∃ sl' nx' cnt', IxW N B w' g bs bn ca cc K sl' nx' cnt' ∧ Tab M (homeOf M) (keysC K n) r sl' nx' cnt' ∧ Keeps (IxN g bs bn) w w'
set_option maxRecDepth 100000 in
set_option maxHeartbeats 2000000 in
theorem put_calls {n r M : Nat} (h : IxW N B w g bs bn ca cc K sl nx cnt) (hn : ∀ x ∈ K, x.2.1.length = n) (hT : Tab M (homeOf M) (keysC K n) (r + 1) sl nx cnt) (hM : Pow2 M) (ka : Option Addr) (kc : Nat) (κ : List Int) (hκ : Row w ka κ) (hk : κ = keyC K r) (hKl : K.length ≤ 1000000) (hn1 : n ≤ 1000000) :
    Calls Tryd.prog 46 #[.pointer (some ⟨g, 0, none⟩), .slice ka κ.length kc, .int .i64 r] w (PutRet N B w g bs bn ca cc K sl nx cnt n M r) := by
  have hrn : r < n := by have := hT.rn; rw [keysC_len] at this; omega
  have cs := slotOf_calls h.read hn hT hM ka kc κ hκ (by rw [hk, keyC_len]) hKl hn1
  have hcnt : cnt ≤ n := by have := dst_le ((keysC K n).drop (r + 1)); rw [← hT.diff] at this; simp [keysC_len] at this; omega
  have hsl := hT.sll
  have hnl : nx.length = n := by have := hT.nxl; rwa [keysC_len] at this
  have HT := Lib.hid hT
  have HK := Lib.hid hk
  have H0 := Lib.hid h
  have n1 := h.n1
  have n2 := h.n2
  have n3 := h.n3
  have n1' := h.n1.symm
  have n2' := h.n2.symm
  have n3' := h.n3.symm
  obtain ⟨_, hM1, hM2⟩ := maskN hM _ rfl
  clear hT hM hn hκ hk h
  go_enter Tryd.func46, Tryd.ntmps46
  go_wp2_with fail
  refine cs.mono ?_
  rintro e w1 ⟨a, hF, rfl, q, rfl⟩
  have HP := Lib.hid (HT.out.put (by rw [kyAt_keysC hrn, ← HK.out]; exact hF))
  have ha : a < M := hF.1
  have H1 := Lib.hid (H0.out.drewN q)
  have K1 := Lib.hid (Keeps.of_below (N := IxN g bs bn) (below_drewN (Below.refl w.heap.size w) q))
  clear hF cs
  generalize w.drewN q = w1 at *
  obtain ⟨_, c1, c2, c3⟩ := ixCells H1.out.obj
  have f3 : w1.frozen? ⟨g, 3, none⟩ = false := by simp [World.frozen?, H1.out.obj]
  have d1 : w1.cell? ⟨bs, a, none⟩ = some (.int .i64 (at0 sl a)) := by
    rw [H1.out.o1.cellAt a (by omega), List.getElem?_map, List.getElem?_eq_getElem (by omega)]; simp [at0, show a < sl.length by omega]
  have d2 : w1.cell? ⟨bn, r, none⟩ = some (.int .i64 (at0 nx r)) := by
    rw [H1.out.o2.cellAt r (by omega), List.getElem?_map, List.getElem?_eq_getElem (by omega)]; simp [at0, show r < nx.length by omega]
  have e1 := H1.out.o1.frozenAt a
  have e2 := H1.out.o2.frozenAt r
  rw [hsl] at c1
  rw [hnl] at c2
  have HSL := Lib.hid hsl
  have HNL := Lib.hid hnl
  have q1 : (a : Int) < (M : Int) := by omega
  have q2 : (0 : Int) ≤ (a : Int) := by omega
  have q3 : (r : Int) < (n : Int) := by omega
  have q4 : (0 : Int) ≤ (r : Int) := by omega
  clear hsl hnl
  obtain ⟨s0, hs0⟩ : ∃ s0, at0 sl a = s0 := ⟨_, rfl⟩
  rw [hs0] at HP d1
  have HS0 := Lib.hid hs0
  clear hs0
  generalize at0 nx r = x0 at *
  by_cases hz : s0 = 0
  · subst hz
    rw [if_pos rfl] at HP
    have F := Lib.hid ((((H1.out.count (cnt + 1)).next r 0).slot a ((r : Int) + 1)).drew)
    have KK := Lib.hid ((((K1.out.setCell (p := ⟨g, 3, none⟩) (.inl rfl) (.int .i64 ((cnt + 1 : Nat) : Int))).setCell (p := ⟨bn, r, none⟩) (.inr (.inr rfl)) (.int .i64 0)).setCell (p := ⟨bs, a, none⟩) (.inr (.inl rfl)) (.int .i64 ((r : Int) + 1))).drew)
    go_wp2_with fail
    go_region
    go_wp2_with fail
    go_end0
    exact ⟨rfl, _, _, _, F.out, HP.out, KK.out⟩
  · have t1 : (s0 == 0) = false := by simpa using hz
    rw [if_neg hz, Nat.add_zero] at HP
    have F := Lib.hid (((H1.out.next r s0).slot a ((r : Int) + 1)).drew)
    have KK := Lib.hid (((K1.out.setCell (p := ⟨bn, r, none⟩) (.inr (.inr rfl)) (.int .i64 s0)).setCell (p := ⟨bs, a, none⟩) (.inr (.inl rfl)) (.int .i64 ((r : Int) + 1))).drew)
    go_wp2_with fail
    go_region
    go_wp2_with fail
    go_end0
    exact ⟨rfl, _, _, _, F.out, HP.out, KK.out⟩
end Go.Proofs.YtcecndjkfdaaaaaDoor
