import Derived.Test.YtepkmhcchmladaaSt10
import Derived.Test.YtepkmhcchmladaaSg12
import Derived.Test.YtepkmhcchmladaaMr6
/- A store of the call's own, beside relations. -/
namespace Go.Proofs.Ytepkmhcchmladaa
open Go.RowKit Go.Shelf Go.Maps
set_option linter.unusedVariables false
set_option linter.unusedSimpArgs false

/-- A store that the call has made; all that may turn is new. -/
structure SB (B : Nat) (W : World) (N G : Nat → Prop) (w : World) (g wd : Nat) (most : Int) (runs : List (List (List Int))) (dl : List (List Int)) : Prop where
  st : StS N G w g wd most runs dl
  bel : Below B W w
  new : ∀ b, G b → B ≤ b
  hB : W.heap.size = B
theorem SB.size {B : Nat} {W w : World} {N G : Nat → Prop} {g wd : Nat} {most : Int} {runs : List (List (List Int))} {dl : List (List Int)} (h : SB B W N G w g wd most runs dl) : B ≤ w.heap.size := by have := h.bel.size; rw [h.hB] at this; exact this
theorem SB.below {B : Nat} {W w w' : World} {N G : Nat → Prop} {g wd : Nat} {most : Int} {runs : List (List (List Int))} {dl : List (List Int)} (h : SB B W N G w g wd most runs dl) (hb : Below w.heap.size w w') : SB B W N G w' g wd most runs dl :=
  ⟨h.st.below hb, h.bel.trans (hb.mono h.size), h.new, h.hB⟩
theorem SB.row {B : Nat} {W w : World} {N G : Nat → Prop} {g wd : Nat} {most : Int} {runs : List (List (List Int))} {dl : List (List Int)} (h : SB B W N G w g wd most runs dl) {wd' : Nat} {q : Option Addr} {rows : List (List Int)} {w' : World} (hl : ∀ X, Later w.heap.size w' X → Seg X q wd' rows) : SegN G w' wd' (q, rows) :=
  SegN.new (s := (q, rows)) hl h.st.lt
def SBRet (B : Nat) (W : World) (G : Nat → Prop) (w : World) (g wd : Nat) (most : Int) (v : Value) (runs : List (List (List Int))) (dl : List (List Int)) (e : Ending) (w' : World) : Prop :=
  e = .returned v ∧ ∃ N' G', SB B W N' G' w' g wd most runs dl ∧ ∀ wd' s, SegN G w wd' s → SegN G' w' wd' s
theorem sb_of {B : Nat} {W w : World} {N G : Nat → Prop} {g wd : Nat} {most : Int} {runs runs' : List (List (List Int))} {dl dl' : List (List Int)} {v : Value} (h : SB B W N G w g wd most runs dl) {e : Ending} {w' : World} (hr : StRet N G w g wd most v runs' dl' e w') : SBRet B W G w g wd most v runs' dl' e w' := by
  obtain ⟨he, N', h1, h2, h3, h4⟩ := hr
  refine ⟨he, N', _, ⟨h3, h.bel.trans (h4.below h.size (fun b hb => h.new b (h.st.sub b hb))), fun b hb => ?_, h.hB⟩, fun wd' s hs => hs.step h4 h.st.sub (fun b hb => ?_)⟩
  · rcases hb with h5 | h5
    · exact h.new b h5
    · rcases h2 b h5 with h6 | h6
      · exact h.new b (h.st.sub b h6)
      · exact Nat.le_trans h.size h6
  · rcases hb with h5 | h5
    · exact .inl h5
    · rcases h2 b h5 with h6 | h6
      · exact .inl (h.st.sub b h6)
      · exact .inr h6
theorem sbStep_calls {B : Nat} {W w : World} {N G : Nat → Prop} {g wd : Nat} {most : Int} {runs : List (List (List Int))} {dl : List (List Int)} (h : SB B W N G w g wd most runs dl) {wd' : Nat} {s : SP} (hs : SegN G w wd' s) (hwd : wd ≤ 100) (hn : runs.length ≤ 900) (hT : runs.flatten.length + s.2.length ≤ 1000) (hsr : ∀ x ∈ s.2, InRange x) :
    Calls Try.prog 21 #[.pointer (some ⟨g, 0, none⟩), .pointer s.1] w (SBRet B W G w g wd most (.int .i64 (newR wd runs wd' s.2).length) (stepRuns wd most runs (newR wd runs wd' s.2)) (newR wd runs wd' s.2)) :=
  (stStep_calls h.st hs hwd hn hT hsr (List.Pairwise.imp (fun h e => by rw [e, cmpR_self] at h; omega) hs.seg.1)).mono fun e w' hr => sb_of h hr
theorem sbNew_calls (wd : Nat) (most : Int) {B : Nat} {W w : World} (hB : W.heap.size = B) (hb : Below B W w) (hwd : wd ≤ 100) : Calls Try.prog 18 #[.int .i64 wd, .int .i64 most] w fun e w' => ∃ g, e = .returned (.pointer (some ⟨g, 0, none⟩)) ∧ SB B W (fun b => b = g) (fun b => False ∨ b = g) w' g wd most [] [] ∧ Below w.heap.size w w' := by
  refine (stNew_calls wd most w hwd).mono ?_
  rintro e w' ⟨g, he, h1, h2, h3, h4⟩
  have hs : B ≤ w.heap.size := by have := hb.size; rw [hB] at this; exact this
  refine ⟨g, he, ⟨h3 (fun _ => False) (fun _ h => h.elim), hb.trans (h4.mono hs), fun b hb => ?_, hB⟩, h4⟩
  rcases hb with h | h
  · exact h.elim
  · omega
theorem sorted_rel {wd : Nat} {rs : List (List Int)} (h : SortedR rs) (hl : ∀ r ∈ rs, r.length = wd) : relOf (wd : Int) rs = rs :=
  sorted_ext (rel_sorted _ _) h (fun x => by rw [mem_rel]; exact ⟨fun h => h.1, fun h => ⟨h, by rw [hl x h]⟩⟩)
theorem rel_range {wd : Int} {T : List (List Int)} (h : ∀ x ∈ T, InRange x) : ∀ x ∈ relOf wd T, InRange x := fun x hx => h x ((mem_rel _ _ _).1 hx).1
theorem minus_self {rs : List (List Int)} : minusR rs rs = [] := by
  unfold minusR
  refine List.filter_eq_nil_iff.2 (fun x hx => ?_)
  rw [decide_eq_true_iff]
  exact fun h => h hx
theorem minus_nil {rs : List (List Int)} : minusR rs [] = rs := by
  unfold minusR
  exact List.filter_eq_self.2 (fun x hx => by simp)
end Go.Proofs.Ytepkmhcchmladaa
