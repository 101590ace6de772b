/- Contract of the page's Reach. -/
import Derived.Test.YtfpocoaddmgakaaRcM
import Derived.Test.YtfpocoaddmgakaaIs
import Derived.Test.YtfpocoaddmgakaaLg
namespace Go.Proofs.Ytfpocoaddmgakaa
open Go.RowKit
set_option linter.unusedVariables false
set_option linter.unusedSimpArgs false

/-- The cells of an array of n bools. -/
def arrB (n : Nat) (f : Nat → Bool) : Array Value := ((List.range n).map fun i => Value.bool (f i)).toArray
theorem arrB_size (n : Nat) (f : Nat → Bool) : (arrB n f).size = n := by simp [arrB]
theorem arrB_get {n : Nat} {f : Nat → Bool} {i : Nat} (h : i < n) : (arrB n f)[i]? = some (.bool (f i)) := by simp [arrB, h]
theorem arrB_set {n : Nat} {f : Nat → Bool} {i : Nat} (x : Bool) : (arrB n f).setIfInBounds i (.bool x) = arrB n (upd f i x) := by
  apply Array.ext_getElem?
  intro j
  rw [Array.getElem?_setIfInBounds]
  by_cases hj : j < n
  · rw [arrB_get hj, arrB_get hj, arrB_size]
    by_cases e : i = j
    · subst e; simp [hj, upd]
    · rw [if_neg e, upd_ne _ _ (fun h => e h.symm)]
  · have h1 : (arrB n f)[j]? = none := by simp [arrB]; omega
    have h2 : (arrB n (upd f i x))[j]? = none := by simp [arrB]; omega
    rw [h1, h2, arrB_size]
    split
    · rw [if_neg (by omega)]
    · rfl
theorem madeB (n : Nat) : madeCells #[Value.bool false] n = arrB n fun _ => false := by
  apply Array.toList_inj.1
  rw [show (madeCells #[Value.bool false] n).toList = List.replicate n (Value.bool false) from toList_madeCells_one _ n]
  unfold arrB
  apply List.ext_getElem?
  intro i
  by_cases hi : i < n <;> simp [hi]
theorem info40 : (Try.prog.info? 40).map (fun i => (i.zero, i.size, i.bytes)) = some (some (.slice none 0 0), 1, 24) := by kernel_rfl
theorem info4 : (Try.prog.info? 4).map (fun i => (i.zero, i.size, i.bytes)) = some (some (.bool false), 1, 1) := by kernel_rfl

/-- A matrix of bools whose first k rows were made: its outer row at B, the rows behind it. -/
structure RM (B : Nat) (w : World) (n k : Nat) (M : Nat → Nat → Bool) : Prop where
  out : w.heap[B]? = some (.cells ((List.range n).map fun i => if i < k then sl (B + 1 + i) n else .slice none 0 0).toArray 40 (0, 0))
  row : ∀ i, i < k → w.heap[B + 1 + i]? = some (.cells (arrB n (M i)) 4 (0, 0))
section
variable {B : Nat} {w : World} {n k : Nat} {M : Nat → Nat → Bool}
theorem RM.outer (h : RM B w n k M) {i : Nat} (hi : i < n) : w.cell? ⟨B, i, none⟩ = some (if i < k then sl (B + 1 + i) n else .slice none 0 0) ∧ w.frozen? ⟨B, i, none⟩ = false := by
  refine ⟨?_, frozen_of_row w B i _ _ h.out⟩
  rw [cell_of_row w B i _ 40 (0, 0) h.out]
  simp [hi]
theorem RM.at (h : RM B w n k M) {i j : Nat} (hi : i < k) (hj : j < n) : w.cell? ⟨B + 1 + i, j, none⟩ = some (.bool (M i j)) ∧ w.frozen? ⟨B + 1 + i, j, none⟩ = false := by
  refine ⟨?_, frozen_of_row w _ j _ _ (h.row i hi)⟩
  rw [cell_of_row w _ j _ 4 (0, 0) (h.row i hi), arrB_get hj]
theorem RM.keeps {N : Nat → Prop} {w' : World} (h : RM B w n k M) (hk : Keeps N w w') (hn : ∀ b, B ≤ b → b ≤ B + k → ¬ N b) : RM B w' n k M :=
  ⟨(hk.block B (Array.getElem?_eq_some_iff.1 h.out).1 (hn B (Nat.le_refl _) (by omega))).trans h.out, fun i hi => (hk.block _ (Array.getElem?_eq_some_iff.1 (h.row i hi)).1 (hn _ (by omega) (by omega))).trans (h.row i hi)⟩
theorem RM.below {w' : World} (h : RM B w n k M) (hb : Below w.heap.size w w') : RM B w' n k M := h.keeps (Keeps.of_below (N := fun _ => False) hb) (fun _ _ _ h => h)
theorem RM.set (h : RM B w n k M) {i : Nat} (hi : i < k) (j : Nat) (x : Bool) : RM B (w.setCell ⟨B + 1 + i, j, none⟩ (.bool x)) n k (fun a b => if a = i ∧ b = j then x else M a b) := by
  refine ⟨(heap_setCell_other w ⟨B + 1 + i, j, none⟩ B _ (by show B ≠ B + 1 + i; omega)).trans h.out, fun a ha => ?_⟩
  by_cases e : a = i
  · subst e
    rw [heap_setCell_same w (B + 1 + a) j _ 4 _ (h.row a ha), arrB_set]
    congr 2
    unfold arrB
    congr 1
    refine List.map_congr_left (fun b _ => ?_)
    by_cases e : b = j
    · subst e; simp [upd_same]
    · rw [upd_ne _ _ e]
      show Value.bool (M a b) = Value.bool (if a = a ∧ b = j then x else M a b)
      rw [if_neg (fun h => e h.2)]
  · rw [heap_setCell_other w ⟨B + 1 + i, j, none⟩ (B + 1 + a) _ (by show B + 1 + a ≠ B + 1 + i; omega), h.row a ha]
    congr 2
    unfold arrB
    congr 1
    refine List.map_congr_left (fun b _ => ?_)
    show Value.bool (M a b) = Value.bool (if a = i ∧ b = j then x else M a b)
    rw [if_neg (fun h => e h.1)]
theorem RM.congr {M' : Nat → Nat → Bool} (h : RM B w n k M) (hc : ∀ i j, i < k → j < n → M i j = M' i j) : RM B w n k M' := by
  refine ⟨h.out, fun i hi => ?_⟩
  rw [h.row i hi]
  congr 2
  unfold arrB
  congr 1
  exact List.map_congr_left (fun j hj => by rw [hc i j hi (List.mem_range.1 hj)])
/-- One row more. -/
theorem RM.more (h : RM B w n k M) (hk : k < n) (hs : w.heap.size = B + 1 + k) (hM : ∀ j, j < n → M k j = false) : RM B ((w.alloc (.cells (madeCells #[.bool false] n) 4)).setCell ⟨B, k, none⟩ (sl (B + 1 + k) n)) n (k + 1) M := by
  have ho := (heap_alloc_old w (.cells (madeCells #[.bool false] n) 4) (Array.getElem?_eq_some_iff.1 h.out).1).trans h.out
  refine ⟨?_, fun i hi => ?_⟩
  · rw [heap_setCell_same _ B k _ 40 _ ho]
    congr 2
    apply Array.ext_getElem?
    intro j
    rw [Array.getElem?_setIfInBounds]
    by_cases e : k = j
    · subst e; simp [hk]
    · rw [if_neg e]
      by_cases hj : j < n
      · simp only [List.getElem?_toArray, List.getElem?_map, List.getElem?_range hj, Option.map_some]
        by_cases h1 : j < k
        · rw [if_pos h1, if_pos (by omega)]
        · rw [if_neg h1, if_neg (by omega)]
      · have e1 : (List.range n)[j]? = none := by simp; omega
        simp [e1]
  · rw [heap_setCell_other _ ⟨B, k, none⟩ (B + 1 + i) _ (by show B + 1 + i ≠ B; omega)]
    by_cases e : i = k
    · subst e
      rw [← hs, heap_alloc_new, madeB]
      congr 2
      unfold arrB
      congr 1
      exact List.map_congr_left (fun j hj => by rw [hM j (List.mem_range.1 hj)])
    · rw [heap_alloc_old _ _ (by omega)]; exact h.row i (by omega)
end
/-- The closure under way: round k, row i, place j. -/
structure WF (n : Nat) (E : Nat → List Int) (k i j : Nat) (M : Nat → Nat → Bool) : Prop where
  sound : ∀ x y, x < n → y < n → M x y = true → RP (Edge n E) x y
  via : ∀ x y, x < n → y < n → Via (Edge n E) k x y → M x y = true
  done : ∀ x y, x < n → y < n → (x < i ∨ (x = i ∧ y < j)) → Via (Edge n E) (k + 1) x y → M x y = true
theorem WF.step {n : Nat} {E : Nat → List Int} {k i j : Nat} {M : Nat → Nat → Bool} (h : WF n E k i j M) (hk : k < n) (hi : i < n) (hj : j < n) : WF n E k i (j + 1) (fun a b => if a = i ∧ b = j then (M i j || (M i k && M k j)) else M a b) := by
  have mono : ∀ x y, M x y = true → (if x = i ∧ y = j then (M i j || (M i k && M k j)) else M x y) = true := fun x y hm => by
    split
    · rename_i e; obtain ⟨rfl, rfl⟩ := e; simp [hm]
    · exact hm
  refine ⟨fun x y hx hy hm => ?_, fun x y hx hy hv => mono x y (h.via x y hx hy hv), fun x y hx hy hd hv => ?_⟩
  · have hm : (if x = i ∧ y = j then (M i j || (M i k && M k j)) else M x y) = true := hm
    split at hm
    · rename_i e
      obtain ⟨rfl, rfl⟩ := e
      rw [Bool.or_eq_true, Bool.and_eq_true] at hm
      rcases hm with h1 | ⟨h1, h2⟩
      · exact h.sound x y hx hy h1
      · exact (h.sound x k hx hk h1).trans (h.sound k y hk hy h2)
    · exact h.sound x y hx hy hm
  · by_cases e : x = i ∧ y = j
    · obtain ⟨rfl, rfl⟩ := e
      show (if x = x ∧ y = y then (M x y || (M x k && M k y)) else M x y) = true
      rw [if_pos ⟨rfl, rfl⟩]
      rcases hv with hv | ⟨h1, h2⟩
      · rw [h.via x y hx hy hv]; rfl
      · rw [h.via x k hx hk h1, h.via k y hk hy h2]; simp
    · exact mono x y (h.done x y hx hy (by omega) hv)
theorem WF.row {n : Nat} {E : Nat → List Int} {k i : Nat} {M : Nat → Nat → Bool} (h : WF n E k i n M) : WF n E k (i + 1) 0 M :=
  ⟨h.sound, h.via, fun x y hx hy hd hv => h.done x y hx hy (by omega) hv⟩
theorem WF.round {n : Nat} {E : Nat → List Int} {k : Nat} {M : Nat → Nat → Bool} (h : WF n E k n 0 M) : WF n E (k + 1) 0 0 M :=
  ⟨h.sound, fun x y hx hy hv => h.done x y hx hy (.inl hx) hv, fun x y hx hy hd => by omega⟩
theorem WF.all {n : Nat} {E : Nat → List Int} {M : Nat → Nat → Bool} (h : WF n E n 0 0 M) {x y : Nat} (hx : x < n) (hy : y < n) : M x y = true ↔ RP (Edge n E) x y :=
  ⟨h.sound x y hx hy, fun hr => h.via x y hx hy (via_all hr)⟩
/-- The matrix of the edges: whole rows up to i, and of row i the first j. -/
def M0 (E : Nat → List Int) (i j : Nat) : Nat → Nat → Bool := fun a b => decide (a < i ∧ (b : Int) ∈ E a) || decide (a = i ∧ (b : Int) ∈ (E a).take j)
theorem M0_row {E : Nat → List Int} {i j : Nat} (h : (E i).length ≤ j) : M0 E i j = M0 E (i + 1) 0 := by
  funext a b
  unfold M0
  by_cases e : a = i
  · subst e
    rw [List.take_of_length_le h]
    simp
  · by_cases h1 : a < i
    · simp [h1, e, show a < i + 1 by omega, show ¬ a = i + 1 by omega]
    · simp [h1, e, show ¬ a < i + 1 by omega]
theorem M0_put {E : Nat → List Int} {i j b0 : Nat} (h : (E i)[j]? = some (b0 : Int)) : M0 E i (j + 1) = fun a b => if a = i ∧ b = b0 then true else M0 E i j a b := by
  have hj := (List.getElem?_eq_some_iff.1 h).1
  have he : (E i)[j] = (b0 : Int) := (List.getElem?_eq_some_iff.1 h).2
  funext a b
  unfold M0
  by_cases e : a = i
  · subst e
    rw [List.take_succ_eq_append_getElem hj, he]
    by_cases e2 : b = b0
    · subst e2; simp
    · simp [e2, show ¬ (b : Int) = (b0 : Int) by omega]
  · simp [e]
theorem M0_skip {E : Nat → List Int} {n i j : Nat} {t : Int} (h : (E i)[j]? = some t) (ht : ¬ (0 ≤ t ∧ t < (n : Int))) {a b : Nat} (hb : b < n) : M0 E i (j + 1) a b = M0 E i j a b := by
  have hj := (List.getElem?_eq_some_iff.1 h).1
  have he : (E i)[j] = t := (List.getElem?_eq_some_iff.1 h).2
  unfold M0
  by_cases e : a = i
  · subst e
    rw [List.take_succ_eq_append_getElem hj, he]
    simp [show ¬ (b : Int) = t by omega]
  · simp [e]
theorem M0_wf (n : Nat) (E : Nat → List Int) : WF n E 0 0 0 (M0 E n 0) := by
  have e : ∀ x y, x < n → y < n → (M0 E n 0 x y = true ↔ Edge n E x y) := fun x y hx hy => by
    unfold M0 Edge
    simp [hx, hy]
  exact ⟨fun x y hx hy hm => ⟨y, (e x y hx hy).1 hm, .refl _⟩, fun x y hx hy hv => (e x y hx hy).2 hv, fun x y hx hy hd => by omega⟩

def ReachAt (B : Nat) (w wr : World) (n : Nat) (M : Nat → Nat → Bool) : Prop := RM B wr n n M ∧ Below B w wr ∧ B + 1 + n ≤ wr.heap.size

set_option maxRecDepth 100000 in
set_option maxHeartbeats 4000000 in
theorem reach_calls {w : World} {ea : Option Addr} {ec : Nat} {K : List RV} (hE : RRow w ea K) (hdeg : ∀ i, i < K.length → (edgesOf K i).length ≤ 100000) (hn : K.length ≤ 1000) :
    Calls Try.prog 17 #[.slice ea K.length ec] w fun e w' => ∃ M, e = .returned (sl w.heap.size K.length) ∧ RM w.heap.size w' K.length K.length M ∧ (∀ x y, x < K.length → y < K.length → (M x y = true ↔ RP (Edge K.length (edgesOf K)) x y)) ∧ Below w.heap.size w w' := by
  obtain ⟨n, hKn⟩ : ∃ n, K.length = n := ⟨_, rfl⟩
  obtain ⟨B, hB⟩ : ∃ B, w.heap.size = B := ⟨_, rfl⟩
  obtain ⟨E, hEE⟩ : ∃ E, edgesOf K = E := ⟨_, rfl⟩
  obtain ⟨i1, hi, hz0, hz1, hz2⟩ := info_parts info40
  have I := Lib.hid hi
  have Z0 := Lib.hid hz0
  have Z1 := Lib.hid hz1
  have Z2 := Lib.hid hz2
  obtain ⟨i2, hj, hy0, hy1, hy2⟩ := info_parts info4
  have J := Lib.hid hj
  have Y0 := Lib.hid hy0
  have Y1 := Lib.hid hy1
  have Y2 := Lib.hid hy2
  rw [hKn, hB, hEE]
  rw [hKn] at hn hdeg
  rw [hEE] at hdeg
  have HE := Lib.hid hE
  have HKN := Lib.hid hKn
  have HBB := Lib.hid hB
  have HEE := Lib.hid hEE
  have HDEG := Lib.hid hdeg
  clear hi hz0 hz1 hz2 hj hy0 hy1 hy2 hE hdeg hKn hEE hB
  go_enter Try.func17, Try.ntmps17
  go_wp2_with (first | (refine wpList_make_row _ rfl _ _ 38 rfl 40 i1 (.slice none 0 0) Try.underlying38 I.out Z0.out Z1.out rfl .i64 .i64 n rfl rfl ?b1 ?b2 ?_))
  case b1 => rw [Z2.out]; omega
  case b2 => omega
  have P0 : Hid (RM B (w.alloc (.cells (madeCells #[.slice none 0 0] n) 40)) n 0 (M0 E 0 0) ∧ Below B w (w.alloc (.cells (madeCells #[.slice none 0 0] n) 40)) ∧ (w.alloc (.cells (madeCells #[.slice none 0 0] n) 40)).heap.size = B + 1 + 0) := Lib.hid (by
    refine ⟨⟨?_, fun i hi => by omega⟩, (Below.refl _ _).alloc (by rw [HBB.out]; exact Nat.le_refl _) _, by simp [HBB.out]⟩
    rw [← HBB.out, heap_alloc_new]
    congr 2
    apply Array.toList_inj.1
    rw [made_rows]
    apply List.ext_getElem?
    intro i
    by_cases hi : i < n <;> simp [hi])
  rw [HBB.out]
  generalize World.alloc w _ = w1 at *
  go_loopw [17, 5, 7] (fun s17 _ _ wr => ∃ i : Nat, i ≤ n ∧ s17 = .int .i64 i ∧ Hid (RM B wr n i (M0 E i 0) ∧ Below B w wr ∧ wr.heap.size = B + 1 + i)) (fun s17 _ _ _ => n - (intOf s17).toNat)
  case atStart => exact ⟨0, Nat.zero_le _, rfl, P0⟩
  case round =>
    obtain ⟨i, hi, rfl, HP⟩ := hrel
    clear P0
    by_cases hlt : i < n
    · have i0 : (0 : Int) ≤ (i : Int) := by omega
      have i1' : (i : Int) < (n : Int) := by omega
      have o1 := (HP.out.1.outer hlt)
      rw [if_neg (Nat.lt_irrefl _)] at o1
      obtain ⟨o1, o2⟩ := o1
      have hBs : B < wr.heap.size := by have := HP.out.2.2; omega
      have A1 : (wr.alloc (.cells (madeCells #[.bool false] n) 4)).cell? ⟨B, i, none⟩ = some (.slice none 0 0) := by rw [World.cell?_of_block (a := ⟨B, i, none⟩) (heap_alloc_old wr _ hBs)]; exact o1
      have A2 : (wr.alloc (.cells (madeCells #[.bool false] n) 4)).frozen? ⟨B, i, none⟩ = false := by rw [World.frozen?_of_block (a := ⟨B, i, none⟩) (heap_alloc_old wr _ hBs)]; exact o2
      have R := HP.out.1.more hlt HP.out.2.2 (fun j _ => by unfold M0; simp)
      rw [← HP.out.2.2] at R
      have EW : (wr.alloc (.cells (madeCells #[.bool false] n) 4)).setCell ⟨B, i, none⟩ (sl wr.heap.size n) = (wr.setCell ⟨B, i, none⟩ (sl wr.heap.size n)).alloc (.cells (madeCells #[.bool false] n) 4) := World.setCell_alloc_past _ _ _ _ hBs
      have NX : Hid (RM B ((wr.alloc (.cells (madeCells #[.bool false] n) 4)).setCell ⟨B, i, none⟩ (sl wr.heap.size n)) n (i + 1) (M0 E i 0) ∧ Below B w ((wr.alloc (.cells (madeCells #[.bool false] n) 4)).setCell ⟨B, i, none⟩ (sl wr.heap.size n)) ∧ ((wr.alloc (.cells (madeCells #[.bool false] n) 4)).setCell ⟨B, i, none⟩ (sl wr.heap.size n)).heap.size = B + 1 + (i + 1)) := Lib.hid ⟨R, (HP.out.2.1.alloc (by omega) _).setCell (p := ⟨B, i, none⟩) (Nat.le_refl _) _, by simp; have := HP.out.2.2; omega⟩
      rw [EW] at NX
      clear EW
      have hrow0 := (HE.out.2 _ (atV_mem (by rw [HKN.out]; exact hlt : i < K.length))).1
      obtain ⟨eb, eo, rfl, heb, hec, _, _⟩ := (HE.out.belowB HBB.out NX.out.2.1).at (k := i) (by rw [HKN.out]; exact hlt)
      have hEx : (atV K i).2.1 = E i := by rw [← HEE.out]; rfl
      rw [hEx] at hec hrow0
      generalize (atV K i).1 = xa at *
      generalize (atV K i).2.2 = xc at *
      have hdx := HDEG.out i hlt
      have HR : Hid (∀ wv, Below B w wv → Row wv xa (E i)) := Lib.hid (fun wv hb => hrow0.belowB HBB.out hb)
      clear R o1 o2 hrow0 hEx HP
      go_wp2_with (first | (refine wpList_make_row _ rfl _ _ 40 rfl 4 i2 (.bool false) Try.underlying40 J.out Y0.out Y1.out rfl .i64 .i64 n rfl rfl ?b3 ?b4 ?_))
      case b3 => rw [Y2.out]; omega
      case b4 => omega
      generalize World.alloc (World.setCell wr _ _) _ = wa at *
      clear hec A1 A2
      have NX1 : Hid (RM B wa n (i + 1) (M0 E i 0) ∧ Below B w wa ∧ wa.heap.size = B + 1 + (i + 1)) := NX
      clear NX
      go_loopw [30, 7] (fun s30 _ wv => ∃ j : Nat, j ≤ (E i).length ∧ s30 = .int .i64 j ∧ Hid (RM B wv n (i + 1) (M0 E i j) ∧ Below B w wv ∧ wv.heap.size = B + 1 + (i + 1))) (fun s30 _ _ => (E i).length - (intOf s30).toNat)
      case atStart => exact ⟨0, Nat.zero_le _, rfl, NX1⟩
      case round =>
        obtain ⟨j, hj, rfl, HJ⟩ := hrel
        clear NX1
        by_cases hlj : j < (E i).length
        · have j0 : (0 : Int) ≤ (j : Int) := by omega
          have j1 : (j : Int) < ((E i).length : Int) := by omega
          obtain ⟨xb, xo, rfl, hxb, hxc⟩ := (HR.out wr HJ.out.2.1).at hlj
          have HT : Hid ((E i)[j]? = some ((E i)[j]?.getD 0)) := Lib.hid (by rw [List.getElem?_eq_getElem hlj]; rfl)
          generalize (E i)[j]?.getD 0 = t at *
          by_cases ht : 0 ≤ t ∧ t < (n : Int)
          · obtain ⟨b, rfl⟩ : ∃ b : Nat, t = b := ⟨t.toNat, by omega⟩
            have hbn : b < n := by omega
            have t1 : decide ((0 : Int) ≤ (b : Int)) = true := decide_eq_true (by omega)
            have t2 : decide ((b : Int) < (n : Int)) = true := decide_eq_true (by omega)
            have b0 : (0 : Int) ≤ (b : Int) := by omega
            have b1 : (b : Int) < (n : Int) := by omega
            have o1 := (HJ.out.1.outer hlt).1
            rw [if_pos (by omega)] at o1
            obtain ⟨m1, m2⟩ := HJ.out.1.at (i := i) (j := b) (by omega) hbn
            have R := HJ.out.1.set (i := i) (by omega) b true
            have NX : Hid (RM B (wr.setCell ⟨B + 1 + i, b, none⟩ (.bool true)) n (i + 1) (M0 E i (j + 1)) ∧ Below B w (wr.setCell ⟨B + 1 + i, b, none⟩ (.bool true)) ∧ (wr.setCell ⟨B + 1 + i, b, none⟩ (.bool true)).heap.size = B + 1 + (i + 1)) := Lib.hid ⟨by rw [M0_put HT.out]; exact R, HJ.out.2.1.setCell (p := ⟨B + 1 + i, b, none⟩) (by show B ≤ B + 1 + i; omega) _, by simp; exact HJ.out.2.2⟩
            clear R ht HJ
            go_wp2_with fail
            go_roundw
            case rel => exact ⟨j + 1, by omega, by go_num, NX⟩
            case measure => simp [intOf]; omega
          · have NX : Hid (RM B wr n (i + 1) (M0 E i (j + 1)) ∧ Below B w wr ∧ wr.heap.size = B + 1 + (i + 1)) := Lib.hid ⟨HJ.out.1.congr (fun a b _ hb => (M0_skip HT.out ht hb).symm), HJ.out.2⟩
            by_cases h0 : 0 ≤ t
            · have t1 : decide ((0 : Int) ≤ t) = true := decide_eq_true h0
              have t2 : decide (t < (n : Int)) = false := decide_eq_false (fun h => ht ⟨h0, h⟩)
              clear ht HJ
              go_wp2_with fail
              go_roundw
              case rel => exact ⟨j + 1, by omega, by go_num, NX⟩
              case measure => simp [intOf]; omega
            · have t1 : decide ((0 : Int) ≤ t) = false := decide_eq_false h0
              clear ht h0 HJ
              go_wp2_with fail
              go_roundw
              case rel => exact ⟨j + 1, by omega, by go_num, NX⟩
              case measure => simp [intOf]; omega
        · have NX : Hid (RM B wr n (i + 1) (M0 E (i + 1) 0) ∧ Below B w wr ∧ wr.heap.size = B + 1 + (i + 1)) := Lib.hid (by have := HJ.out; rw [M0_row (by omega)] at this; exact this)
          clear HJ
          go_wp2_with fail
          go_roundw
          case rel => exact ⟨i + 1, by omega, by go_num, NX⟩
          case measure => simp [intOf]; omega
    · obtain rfl : i = n := by omega
      have Q0 : Hid (RM B wr i i (M0 E i 0) ∧ Below B w wr) := Lib.hid ⟨HP.out.1, HP.out.2.1⟩
      clear HP
      go_wp2_with fail
      go_loopw [8, 9, 10] (fun s8 _ _ wv => ∃ (k : Nat) (M : Nat → Nat → Bool), k ≤ i ∧ s8 = .int .i64 k ∧ Hid (RM B wv i i M ∧ Below B w wv) ∧ Hid (WF i E k 0 0 M)) (fun s8 _ _ _ => i - (intOf s8).toNat)
      case atStart => exact ⟨0, _, Nat.zero_le _, rfl, Q0, Lib.hid (M0_wf i E)⟩
      case round =>
        obtain ⟨k, M, hk, rfl, HQ, HW⟩ := hrel
        clear Q0
        by_cases hlk : k < i
        · have P1 : Hid (RM B wr i i M ∧ Below B w wr) := HQ
          have P2 : Hid (WF i E k 0 0 M) := HW
          have k0 : (0 : Int) ≤ (k : Int) := by omega
          have k1 : (k : Int) < (i : Int) := by omega
          clear HQ HW
          go_wp2_with fail
          go_loopw [9, 10] (fun s9 _ wv => ∃ (x : Nat) (M : Nat → Nat → Bool), x ≤ i ∧ s9 = .int .i64 x ∧ Hid (RM B wv i i M ∧ Below B w wv) ∧ Hid (WF i E k x 0 M)) (fun s9 _ _ => i - (intOf s9).toNat)
          case atStart => exact ⟨0, _, Nat.zero_le _, rfl, P1, P2⟩
          case round =>
            obtain ⟨x, M, hx, rfl, HQ, HW⟩ := hrel
            clear P1 P2
            by_cases hlx : x < i
            · have P1 : Hid (RM B wr i i M ∧ Below B w wr) := HQ
              have P2 : Hid (WF i E k x 0 M) := HW
              have x0 : (0 : Int) ≤ (x : Int) := by omega
              have x1 : (x : Int) < (i : Int) := by omega
              clear HQ HW
              go_wp2_with fail
              go_loopw [10] (fun s10 wv => ∃ (y : Nat) (M : Nat → Nat → Bool), y ≤ i ∧ s10 = .int .i64 y ∧ Hid (RM B wv i i M ∧ Below B w wv) ∧ Hid (WF i E k x y M)) (fun s10 _ => i - (intOf s10).toNat)
              case atStart => exact ⟨0, _, Nat.zero_le _, rfl, P1, P2⟩
              case round =>
                obtain ⟨y, M, hy, rfl, HQ, HW⟩ := hrel
                clear P1 P2
                by_cases hly : y < i
                · have y0 : (0 : Int) ≤ (y : Int) := by omega
                  have y1 : (y : Int) < (i : Int) := by omega
                  have ox := (HQ.out.1.outer hlx).1
                  have ok := (HQ.out.1.outer hlk).1
                  rw [if_pos hlx] at ox
                  rw [if_pos hlk] at ok
                  obtain ⟨mxy, fxy⟩ := HQ.out.1.at hlx hly
                  have mxk := (HQ.out.1.at hlx hlk).1
                  have mky := (HQ.out.1.at hlk hly).1
                  have ST := Lib.hid (HW.out.step hlk hlx hly)
                  have R := Lib.hid (HQ.out.1.set hlx y (M x y || (M x k && M k y)))
                  have hbx : B + 1 + x ≤ B + 1 + x := Nat.le_refl _
                  have BB := Lib.hid (fun v => below_drew (HQ.out.2.setCell (p := ⟨B + 1 + x, y, none⟩) (by show B ≤ B + 1 + x; omega) v))
                  have NXT : Hid (∀ v, v = (M x y || (M x k && M k y)) → (∃ (M' : Nat → Nat → Bool), (RM B ((wr.setCell ⟨B + 1 + x, y, none⟩ (.bool v)).drew) i i M' ∧ Below B w ((wr.setCell ⟨B + 1 + x, y, none⟩ (.bool v)).drew)) ∧ WF i E k x (y + 1) M')) := Lib.hid (fun v hv => by
                    subst hv
                    exact ⟨_, ⟨⟨R.out.out, R.out.row⟩, BB.out _⟩, ST.out⟩)
                  clear HQ HW ST R BB hbx
                  cases exy : M x y
                  · rw [exy] at mxy NXT
                    cases exk : M x k
                    · rw [exk] at mxk NXT
                      simp only [Bool.false_or, Bool.false_and] at NXT
                      clear exy exk
                      go_wp2_with fail
                      go_region
                      have ⟨M', h1, h2⟩ := NXT.out false rfl
                      have G1 := Lib.hid h1
                      have G2 := Lib.hid h2
                      clear mxy fxy mxk mky ox ok h1 h2 NXT
                      generalize World.drew (World.setCell wr _ _) = wz at *
                      go_wp2_with fail
                      go_roundw
                      case rel => exact ⟨y + 1, M', by omega, by go_num, G1, G2⟩
                      case measure => simp [intOf]; omega
                    · rw [exk] at mxk NXT
                      simp only [Bool.false_or, Bool.true_and] at NXT
                      cases eky : M k y
                      · rw [eky] at mky NXT
                        clear exy exk eky
                        go_wp2_with fail
                        go_region
                        have ⟨M', h1, h2⟩ := NXT.out false rfl
                        have G1 := Lib.hid h1
                        have G2 := Lib.hid h2
                        clear mxy fxy mxk mky ox ok h1 h2 NXT
                        generalize World.drew (World.setCell wr _ _) = wz at *
                        go_wp2_with fail
                        go_roundw
                        case rel => exact ⟨y + 1, M', by omega, by go_num, G1, G2⟩
                        case measure => simp [intOf]; omega
                      · rw [eky] at mky NXT
                        clear exy exk eky
                        go_wp2_with fail
                        go_region
                        have ⟨M', h1, h2⟩ := NXT.out true rfl
                        have G1 := Lib.hid h1
                        have G2 := Lib.hid h2
                        clear mxy fxy mxk mky ox ok h1 h2 NXT
                        generalize World.drew (World.setCell wr _ _) = wz at *
                        go_wp2_with fail
                        go_roundw
                        case rel => exact ⟨y + 1, M', by omega, by go_num, G1, G2⟩
                        case measure => simp [intOf]; omega
                  · rw [exy] at mxy NXT
                    simp only [Bool.true_or] at NXT
                    clear exy
                    go_wp2_with fail
                    go_region
                    have ⟨M', h1, h2⟩ := NXT.out true rfl
                    have G1 := Lib.hid h1
                    have G2 := Lib.hid h2
                    clear mxy fxy mxk mky ox ok h1 h2 NXT
                    generalize World.drew (World.setCell wr _ _) = wz at *
                    go_wp2_with fail
                    go_roundw
                    case rel => exact ⟨y + 1, M', by omega, by go_num, G1, G2⟩
                    case measure => simp [intOf]; omega
                · have NX : Hid (WF i E k (x + 1) 0 M) := Lib.hid (by have := HW.out; rw [show y = i from (by omega)] at this; exact this.row)
                  clear HW
                  go_wp2_with fail
                  go_roundw
                  case rel => exact ⟨x + 1, _, by omega, by go_num, HQ, NX⟩
                  case measure => simp [intOf]; omega
            · have NX : Hid (WF i E (k + 1) 0 0 M) := Lib.hid (by have := HW.out; rw [show x = i from (by omega)] at this; exact this.round)
              clear HW
              go_wp2_with fail
              go_roundw
              case rel => exact ⟨k + 1, _, by omega, by go_num, HQ, NX⟩
              case measure => simp [intOf]; omega
        · have RET := Lib.hid (show ∃ M, RM B wr i i M ∧ (∀ x y, x < i → y < i → (M x y = true ↔ RP (Edge i E) x y)) ∧ Below B w wr from ⟨M, HQ.out.1, fun x y hx hy => by
            have := HW.out
            obtain rfl : k = i := by omega
            exact this.all hx hy, HQ.out.2⟩)
          clear HQ HW
          go_wp2_with fail
          go_ret
          obtain ⟨M, h1, h2, h3⟩ := RET.out
          exact ⟨M, rfl, h1, h2, h3⟩
end Go.Proofs.Ytfpocoaddmgakaa
