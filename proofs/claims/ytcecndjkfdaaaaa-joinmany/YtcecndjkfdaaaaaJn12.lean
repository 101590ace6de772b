/- The memory of join's partners: a row of slices of keyed rows, filled while two lists are gone through. -/
import Derived.Test.YtcecndjkfdaaaaaJn11
namespace Go.Proofs.Ytcecndjkfdaaaaa
open Go.RowKit Go.Shelf
set_option linter.unusedVariables false
set_option linter.unusedSimpArgs false

abbrev KS := Option Addr × List KE × Nat
def encS (x : KS) : Value := .slice x.1 x.2.1.length x.2.2
def atS (F : List KS) (i : Nat) : KS := F[i]?.getD (none, [], 0)
theorem atS_eq {F : List KS} {i : Nat} (h : i < F.length) : atS F i = F[i] := by simp [atS, h]
theorem atS_mem {F : List KS} {i : Nat} (h : i < F.length) : atS F i ∈ F := by rw [atS_eq h]; exact List.getElem_mem h
theorem atS_set {F : List KS} {i j : Nat} {x : KS} (h : i < F.length) : atS (F.set i x) j = if j = i then x else atS F j := by
  unfold atS
  by_cases e : j = i
  · subst e; simp [h]
  · rw [if_neg e, List.getElem?_set_ne (Ne.symm e)]
def nums (x : KS) : List Nat := x.2.1.map fun y => y.2
/-- The slice at address a reads as the slices F of keyed rows. -/
def SRow (w : World) (a : Option Addr) (F : List KS) : Prop :=
  (F = [] ∨ ∃ b off, a = some ⟨b, off, none⟩ ∧ b < w.heap.size ∧ ∀ i, i < F.length → w.cell? ⟨b, off + i, none⟩ = some (encS (atS F i))) ∧ ∀ x ∈ F, KRow w x.1 x.2.1 ∧ x.2.1.length ≤ 1000
theorem SRow.below {w w' : World} {a : Option Addr} {F : List KS} (h : SRow w a F) (hb : Below w.heap.size w w') : SRow w' a F := by
  refine ⟨?_, fun x hx => ⟨(h.2 x hx).1.below hb, (h.2 x hx).2⟩⟩
  rcases h.1 with rfl | ⟨b, off, rfl, hlt, hc⟩
  · exact .inl rfl
  · exact .inr ⟨b, off, rfl, Nat.lt_of_lt_of_le hlt hb.size, fun i hi => (hb.cell (p := ⟨b, off + i, none⟩) hlt).trans (hc i hi)⟩
theorem SRow.belowB {w w' : World} {B : Nat} {a : Option Addr} {F : List KS} (h : SRow w a F) (hB : w.heap.size = B) (hb : Below B w w') : SRow w' a F := by subst hB; exact h.below hb
theorem KRow.belowB {w w' : World} {B : Nat} {a : Option Addr} {L : List KE} (h : KRow w a L) (hB : w.heap.size = B) (hb : Below B w w') : KRow w' a L := by subst hB; exact h.below hb
theorem KRow.drop {w : World} {b off : Nat} {L : List KE} (h : KRow w (some ⟨b, off, none⟩) L) (k : Nat) : KRow w (some ⟨b, off + k * 2, none⟩) (L.drop k) := by
  refine ⟨?_, fun x hx => h.2 x (List.mem_of_mem_drop hx)⟩
  by_cases hk : L.drop k = []
  · exact .inl hk
  · have hkl : k < L.length := by
      rcases Nat.lt_or_ge k L.length with h | h
      · exact h
      · exact absurd (List.drop_eq_nil_of_le h) hk
    rcases h.1 with rfl | ⟨b', off', e, hlt, hc⟩
    · simp at hkl
    · cases e
      refine .inr ⟨b, _, rfl, hlt, fun i hi => ?_⟩
      rw [List.length_drop] at hi
      have h2 : atK (L.drop k) i = atK L (k + i) := by simp [atK]
      rw [h2, show off + k * 2 + i * 2 = off + (k + i) * 2 by omega]
      exact hc (k + i) (by omega)
theorem KRow.take {w : World} {a : Option Addr} {L : List KE} (h : KRow w a L) (k : Nat) : KRow w a (L.take k) := by
  refine ⟨?_, fun x hx => h.2 x (List.mem_of_mem_take hx)⟩
  rcases h.1 with rfl | ⟨b', off', e, hlt, hc⟩
  · exact .inl (by simp)
  · refine .inr ⟨b', off', e, hlt, fun i hi => ?_⟩
    rw [List.length_take] at hi
    have h2 : atK (L.take k) i = atK L i := by simp [atK, List.getElem?_take, show i < k by omega]
    rw [h2]
    exact hc i (by omega)
/-- The row found: all its cells are slices, and there are no others. -/
def Found (W : World) (g n : Nat) (F : List KS) : Prop := W.ownsRow g 76 1 (.slice (some ⟨g, 0, none⟩) n n) n (F.map encS)
theorem Found.len {W : World} {g n : Nat} {F : List KS} (h : Found W g n F) : F.length = n := by have := h.1; simpa using this
theorem Found.ne {W : World} {g n : Nat} {F : List KS} (h : Found W g n F) {b off : Nat} {z : Int} (hc : W.cell? ⟨b, off, none⟩ = some (.int .i64 z)) : b ≠ g := by
  rintro rfl
  by_cases ho : off < n
  · rw [World.ownsRow.cellAt h off (by omega), List.getElem?_map] at hc
    cases e : F[off]? <;> rw [e] at hc <;> simp [encS] at hc
  · rcases h.2 with ⟨e, _⟩ | ⟨g', cap, cur, e, _, hh, _, _, hcs, _⟩
    · cases e
    · cases e
      rw [cell_of_row W _ off cur 76 (0, 0) hh, Array.getElem?_eq_none (by omega)] at hc
      cases hc
theorem Row.found {W W' : World} {g n : Nat} {F : List KS} {a : Option Addr} {zs : List Int} (h : Row W a zs) (hf : Found W g n F) (hk : Keeps (fun b => b = g) W W') : Row W' a zs := by
  rcases Nat.eq_zero_or_pos zs.length with h0 | h0
  · rw [List.eq_nil_of_length_eq_zero h0]; exact Row.nil _ _
  · obtain ⟨b, off, e, hb, hc⟩ := h.at h0
    exact h.keeps hk (fun x hx => by rw [e] at hx; cases hx; exact hf.ne hc)
theorem KRow.found {W W' : World} {g n : Nat} {F : List KS} {a : Option Addr} {L : List KE} (h : KRow W a L) (hf : Found W g n F) (hn : ∀ q, a = some q → q.block ≠ g) (hk : Keeps (fun b => b = g) W W') : KRow W' a L := by
  refine ⟨?_, fun x hx => ⟨(h.2 x hx).1.found hf hk, (h.2 x hx).2⟩⟩
  rcases h.1 with rfl | ⟨b, off, rfl, hlt, hc⟩
  · exact .inl rfl
  · have hb : b ≠ g := hn _ rfl
    have hcell : ∀ j, W'.cell? ⟨b, j, none⟩ = W.cell? ⟨b, j, none⟩ := fun j => by simp only [World.cell?, hk.block b hlt hb]
    exact .inr ⟨b, off, rfl, Nat.lt_of_lt_of_le hlt hk.size, fun i hi => ⟨(hcell _).trans (hc i hi).1, (hcell _).trans (hc i hi).2⟩⟩
/-- The memory while partners goes through both lists. -/
structure PM (g n : Nat) (W : World) (a1 a2 : Option Addr) (l r : List KE) (F : List KS) : Prop where
  own : Found W g n F
  k1 : KRow W a1 l
  k2 : KRow W a2 r
  n1 : ∀ q, a1 = some q → q.block ≠ g
  n2 : ∀ q, a2 = some q → q.block ≠ g
  fk : ∀ x ∈ F, KRow W x.1 x.2.1 ∧ (∀ q, x.1 = some q → q.block ≠ g) ∧ x.2.1.length ≤ 1000
theorem PM.keep {g n : Nat} {W W' : World} {a1 a2 : Option Addr} {l r : List KE} {F F' : List KS} (h : PM g n W a1 a2 l r F) (hk : Keeps (fun b => b = g) W W') (ho : Found W' g n F') (hF : ∀ x ∈ F', x ∈ F ∨ KRow W x.1 x.2.1 ∧ (∀ q, x.1 = some q → q.block ≠ g) ∧ x.2.1.length ≤ 1000) : PM g n W' a1 a2 l r F' :=
  ⟨ho, h.k1.found h.own h.n1 hk, h.k2.found h.own h.n2 hk, h.n1, h.n2, fun x hx => by
    have h1 : KRow W x.1 x.2.1 ∧ (∀ q, x.1 = some q → q.block ≠ g) ∧ x.2.1.length ≤ 1000 := by
      rcases hF x hx with h2 | h2
      · exact h.fk x h2
      · exact h2
    exact ⟨h1.1.found h.own h1.2.1 hk, h1.2⟩⟩
theorem PM.drewN {g n : Nat} {W : World} {a1 a2 : Option Addr} {l r : List KE} {F : List KS} (h : PM g n W a1 a2 l r F) (q : Nat) : PM g n (W.drewN q) a1 a2 l r F :=
  h.keep (Keeps.of_below (below_drewN (Below.refl _ _) q)) (owns_keeps (N := fun _ => False) h.own (Keeps.of_below (below_drewN (Below.refl _ _) q)) (fun _ _ h => h)) (fun x hx => .inl hx)
theorem PM.alloc {g n : Nat} {W : World} {a1 a2 : Option Addr} {l r : List KE} {F : List KS} (h : PM g n W a1 a2 l r F) (o : Obj) : PM g n (W.alloc o) a1 a2 l r F :=
  h.keep ((Keeps.refl _ _).alloc o) (World.ownsRow.alloc h.own o) (fun x hx => .inl hx)
theorem PM.store {g n : Nat} {W : World} {a1 a2 : Option Addr} {l r : List KE} {F : List KS} (h : PM g n W a1 a2 l r F) (i : Nat) (x : KS) (hx : KRow W x.1 x.2.1 ∧ (∀ q, x.1 = some q → q.block ≠ g) ∧ x.2.1.length ≤ 1000) : PM g n (W.setCell ⟨g, i, none⟩ (encS x)) a1 a2 l r (F.set i x) :=
  h.keep ((Keeps.refl (fun b => b = g) W).setCell (p := ⟨g, i, none⟩) rfl _) (by have := (World.ownsRow.stored h.own i (encS x)).1; rw [← List.map_set] at this; exact this) (fun y hy => by
    rcases List.mem_or_eq_of_mem_set hy with h1 | h1
    · exact .inl h1
    · subst h1; exact .inr hx)
/-- What has been found: the rows still to come have nothing. -/
def FD (n : Nat) (kas kbs : List (List Int)) (l : List KE) (F : List KS) : Prop := ∀ i, i < n → ((∃ x ∈ l, x.2 = i) ∧ nums (atS F i) = []) ∨ nums (atS F i) = rowsOf kbs (kyAt kas i)
def LK (n : Nat) (kas : List (List Int)) (l : List KE) : Prop := ∀ x ∈ l, x.2 < n ∧ x.1.2.1 = kyAt kas x.2
theorem FD.lt {n : Nat} {kas kbs : List (List Int)} {B l r : List KE} {x y : KE} {F : List KS} (h : FD n kas kbs (x :: l) F) (hk : LK n kas (x :: l)) (hB : ∀ κ, numsOf B κ = rowsOf kbs κ) (he : numsOf B x.1.2.1 = []) : FD n kas kbs l F := by
  intro i hi
  rcases h i hi with ⟨⟨z, hz, e⟩, h0⟩ | h1
  · rcases List.mem_cons.1 hz with rfl | hz
    · refine .inr ?_
      rw [h0, ← e, ← (hk z (List.mem_cons_self ..)).2, ← hB, he]
    · exact .inl ⟨⟨z, hz, e⟩, h0⟩
  · exact .inr h1
theorem FD.fill {n : Nat} {kas kbs : List (List Int)} {B l : List KE} {k : Nat} {x : KS} {F : List KS} (h : FD n kas kbs (l.drop k) F) (hF : F.length = n) (hkl : k < l.length) (hk : LK n kas l) (hB : ∀ κ, numsOf B κ = rowsOf kbs κ) (he : numsOf B (atK l k).1.2.1 = nums x) : FD n kas kbs (l.drop (k + 1)) (F.set (atK l k).2 x) := by
  have hz := hk _ (atK_mem hkl)
  intro i hi
  rw [atS_set (by omega)]
  by_cases ei : i = (atK l k).2
  · refine .inr ?_
    rw [if_pos ei, ei, ← hz.2, ← hB, he]
  · rw [if_neg ei]
    rcases h i hi with ⟨⟨z, hz, e⟩, h0⟩ | h1
    · rw [List.drop_eq_getElem_cons hkl] at hz
      rcases List.mem_cons.1 hz with rfl | hz
      · rw [atK_eq hkl] at ei; exact absurd e.symm ei
      · exact .inl ⟨⟨z, hz, e⟩, h0⟩
    · exact .inr h1
theorem FD.fin {n : Nat} {kas kbs : List (List Int)} {B l : List KE} {F : List KS} (h : FD n kas kbs l F) (hk : LK n kas l) (hB : ∀ κ, numsOf B κ = rowsOf kbs κ) (he : ∀ x ∈ l, numsOf B x.1.2.1 = []) : ∀ i, i < n → nums (atS F i) = rowsOf kbs (kyAt kas i) := by
  intro i hi
  rcases h i hi with ⟨⟨z, hz, e⟩, h0⟩ | h1
  · rw [h0, ← e, ← (hk z hz).2, ← hB, he z hz]
  · exact h1
/-- The rows that partners finds. -/
def partsOf (kas kbs : List (List Int)) : List (List Nat) := (List.range kas.length).map fun i => rowsOf kbs (kyAt kas i)
def PartRet (w : World) (kas kbs : List (List Int)) (e : Ending) (w' : World) : Prop :=
  ∃ a cap F, e = .returned (.slice a F.length cap) ∧ SRow w' a F ∧ F.length = kas.length ∧ (∀ i, i < kas.length → nums (atS F i) = rowsOf kbs (kyAt kas i)) ∧ Below w.heap.size w w'
theorem PM.srow {g n : Nat} {W : World} {a1 a2 : Option Addr} {l r : List KE} {F : List KS} (h : PM g n W a1 a2 l r F) : SRow W (some ⟨g, 0, none⟩) F := by
  refine ⟨.inr ⟨g, 0, rfl, ?_, fun i hi => ?_⟩, fun x hx => ⟨(h.fk x hx).1, (h.fk x hx).2.2⟩⟩
  · rcases h.own.2 with ⟨e, _⟩ | ⟨g', cap, cur, e, _, hh, _⟩
    · cases e
    · cases e; exact (Array.getElem?_eq_some_iff.1 hh).1
  · have hl := h.own.len
    rw [Nat.zero_add, World.ownsRow.cellAt h.own i (by omega), List.getElem?_map, List.getElem?_eq_getElem hi, atS_eq hi]; rfl
theorem info76 : (Try.prog.info? 76).map (fun i => (i.zero, i.size, i.bytes)) = some (some (.slice none 0 0), 1, 24) := by kernel_rfl
theorem found_new {W : World} {g n : Nat} (h : W.ownsRow g 76 1 (.slice (some ⟨g, 0, none⟩) n n) n (madeCells #[Value.slice none 0 0] n).toList) : Found W g n (List.replicate n ((none, [], 0) : KS)) := by
  have e : (madeCells #[Value.slice none 0 0] n).toList = (List.replicate n ((none, [], 0) : KS)).map encS := by
    rw [List.map_replicate]; exact made_rows n
  rw [e] at h; exact h
theorem atS_rep (n i : Nat) : atS (List.replicate n ((none, [], 0) : KS)) i = (none, [], 0) := by
  unfold atS
  by_cases h : i < n
  · simp [h]
  · simp [h]
theorem fd_new {n : Nat} {kas kbs : List (List Int)} {A : List KE} (hp : (toK A).Perm ((List.range n).map fun i => (kyAt kas i, i))) : FD n kas kbs A (List.replicate n ((none, [], 0) : KS)) := by
  intro i hi
  refine .inl ⟨?_, by rw [atS_rep]; rfl⟩
  have h1 : (kyAt kas i, i) ∈ toK A := hp.mem_iff.2 (List.mem_map.2 ⟨i, List.mem_range.2 hi, rfl⟩)
  obtain ⟨x, hx, e⟩ := List.mem_map.1 h1
  exact ⟨x, hx, (Prod.ext_iff.1 e).2⟩
theorem lk_new {n : Nat} {kas : List (List Int)} {A : List KE} (hp : (toK A).Perm ((List.range n).map fun i => (kyAt kas i, i))) : LK n kas A := by
  intro x hx
  obtain ⟨i, hi, e⟩ := List.mem_map.1 (hp.mem_iff.1 (List.mem_map.2 ⟨x, hx, rfl⟩))
  have h1 := (Prod.ext_iff.1 e).1
  have h2 := (Prod.ext_iff.1 e).2
  simp only at h1 h2
  subst h2
  exact ⟨List.mem_range.1 hi, h1.symm⟩
end Go.Proofs.Ytcecndjkfdaaaaa
