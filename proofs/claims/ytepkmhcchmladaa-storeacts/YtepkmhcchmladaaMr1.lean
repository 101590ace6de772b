import Derived.Test.YtepkmhcchmladaaHc7
import Derived.Test.YtepkmhcchmladaaSg7F
/- merge's pushRow. -/
namespace Go.Proofs.Ytepkmhcchmladaa
open Go.RowKit
set_option linter.unusedVariables false
set_option linter.unusedSimpArgs false

/-- What pushRow leaves: the heap with the relation's row at the index, if there is one. -/
def PushRowRet (w : World) (g : Nat) (own : Option Nat) (bag : List Cu.CE) (p : Int) (sp : Option Addr) (rs : List (List Int)) (i : Nat) (e : Ending) (w' : World) : Prop :=
  e = .returned (.tuple #[]) ∧ ∃ own' bag' p', Cu.HS w' g own' bag' p' ∧ Keeps (fun b => b = g ∨ own = some b) w w' ∧ (∀ b, own' = some b → own = some b ∨ w.heap.size ≤ b) ∧
    ((i < rs.length ∧ ∃ ra rc, bag' = (((sp, (i : Int)), (ra, rowAt rs i, rc)), p) :: bag ∧ p' = p + 1 ∧ ∀ q, ra = some q → w.heap.size ≤ q.block) ∨ (rs.length ≤ i ∧ bag' = bag ∧ p' = p))
set_option maxRecDepth 100000 in
set_option maxHeartbeats 2000000 in
theorem pushRow_calls {w : World} {g : Nat} {own : Option Nat} {bag : List Cu.CE} {p : Int} (h : Cu.HS w g own bag p) {sp : Option Addr} {wd : Nat} {rs : List (List Int)} (hs : Seg w sp wd rs) (i : Nat) (hi : i ≤ 1000000) (hwd : wd ≤ 1000) (hrs : rs.length ≤ 1000000) (hlen : bag.length + 1 ≤ 1000000) (hp0 : 0 ≤ p) (hp1 : p ≤ 1000000) :
    Calls Try.prog 64 #[.pointer (some ⟨g, 0, none⟩), .pointer sp, .int .i64 i] w (PushRowRet w g own bag p sp rs i) := by
  have H := Lib.hid h
  have S := Lib.hid hs
  have cl := segLen_calls hs
  clear h hs
  go_enter Try.func64, Try.ntmps64
  go_wp2_with fail
  refine cl.mono ?_
  rintro e w1 ⟨rfl, rfl⟩
  by_cases hlt : i < rs.length
  · have cr := segRowF_calls S.out i hlt hwd hrs
    have hl : (rowAt rs i).length = wd := S.out.2.1 _ (rowAt_mem hlt)
    have HL := Lib.hid hl
    clear hl
    go_wp2_with fail
    refine cr.mono ?_
    rintro e w2 ⟨ra, rc, rfl, hr, hc, hf, hb⟩
    have H2 := Lib.hid (H.out.below hb)
    have LT := Lib.hid H.out.lt
    have cp := Cu.hs_push H2.out ((sp, (i : Int)), (ra, rowAt rs i, rc)) ⟨hr, hc, by show (rowAt rs i).length ≤ _; rw [HL.out]; omega, fun q hq => ⟨(hf q hq).2, fun e => by have := (hf q hq).1; have := LT.out.1; omega, fun e => by have := (hf q hq).1; have := LT.out.2 _ e; omega⟩⟩ hlen hp0 hp1
    unfold Cu.cuV at cp
    dsimp only at cp
    have HF := Lib.hid hf
    have HB := Lib.hid hb
    clear cr hr hc hf hb
    go_wp2_with fail
    refine cp.mono ?_
    rintro e w3 ⟨rfl, own', h3, hk, ho⟩
    have H3 := Lib.hid h3
    have HK := Lib.hid hk
    have HO := Lib.hid ho
    clear h3 hk ho
    go_wp2_with fail
    go_end0
    refine ⟨rfl, own', _, _, H3.out, (Keeps.of_below HB.out).trans HK.out, fun b hb => ?_, .inl ⟨hlt, ra, rc, rfl, rfl, fun q hq => (HF.out q hq).1⟩⟩
    rcases HO.out b hb with h | h
    · exact .inl h
    · have := HB.out.size; exact .inr (by omega)
  · have tl : decide ((i : Int) < (rs.length : Int)) = false := decide_eq_false (by omega)
    go_wp2_with fail
    go_end0
    exact ⟨rfl, own, bag, p, H.out, Keeps.refl _ _, fun b hb => .inl hb, .inr ⟨by omega, rfl, rfl⟩⟩
end Go.Proofs.Ytepkmhcchmladaa
