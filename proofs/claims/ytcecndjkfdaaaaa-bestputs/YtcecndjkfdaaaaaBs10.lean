/- best's Seg. -/
import Derived.Test.YtcecndjkfdaaaaaBs9
import Derived.Test.YtcecndjkfdaaaaaSg12
import Derived.StillTailTactics
namespace Go.Proofs.Ytcecndjkfdaaaaa
open Go.RowKit Go.Maps
set_option linter.unusedVariables false
set_option linter.unusedSimpArgs false

theorem row_enc {w : World} {x : RV} (h : w.ownsRow 0 2 1 (encV x) x.2.1.length (x.2.1.map (Value.int .i64))) : Row w x.1 x.2.1 ∧ x.2.1.length ≤ x.2.2 := by
  obtain ⟨a, c, e, hr, hc, _⟩ := fresh_of_owns h
  unfold encV at e
  simp only [Value.slice.injEq] at e
  obtain ⟨e1, _, e2⟩ := e
  rw [← e1] at hr
  rw [← e2] at hc
  exact ⟨hr, hc⟩
theorem BS.rrow {N : Nat → Prop} {w : World} {g wd : Nat} {great : Bool} {es : List Ent} {L : List RV} {tv mv : Value} (h : BS N w g wd great es L tv mv) : ∃ a cap, tv = .slice a L.length cap ∧ RRow w a L :=
  rrow_of_owns h.list (fun x hx => row_enc (h.rows x hx))
theorem BS.wide {N : Nat → Prop} {w : World} {g wd : Nat} {great : Bool} {es : List Ent} {L : List RV} {tv mv : Value} (h : BS N w g wd great es L tv mv) (x : RV) (hx : x ∈ L) : x.2.1.length = wd + 1 := by
  have h5 : x.2.1 ∈ es.map rowE := by rw [← h.cont]; exact List.mem_map_of_mem hx
  obtain ⟨e, he, h6⟩ := List.mem_map.1 h5
  rw [← h6]; simp [rowE, h.ok.len e he]
set_option maxRecDepth 100000 in
set_option maxHeartbeats 2000000 in
theorem bseg_calls {N : Nat → Prop} {w : World} {g wd : Nat} {great : Bool} {es : List Ent} (h : Bst N w g wd great es) (hwd : wd ≤ 100) (hel : es.length ≤ 1000) :
    Calls Try.prog 33 #[.pointer (some ⟨g, 0, none⟩)] w (MakeRet w (wd + 1) (relOf ((wd + 1 : Nat) : Int) (es.map rowE))) := by
  obtain ⟨L, tv, mv, hS⟩ := h
  have hb : Below w.heap.size w w.drew := below_drewN (Below.refl _ w) 1
  have S1 := Lib.hid (hS.below hb)
  obtain ⟨c0, c1, c2, c3⟩ := hS.c
  obtain ⟨a, cap, htv, hR⟩ := S1.out.rrow
  rw [htv] at c2
  have hLl : L.length ≤ 1000 := by rw [hS.len]; exact hel
  have cm := make_later (wd + 1) a cap L w.drew hR (by omega) hLl (fun x hx => by rw [S1.out.wide x hx]; omega)
  rw [S1.out.cont] at cm
  have HB := Lib.hid hb
  clear hS hb hR htv
  go_enter Try.func33, Try.ntmps33
  go_wp2_with fail
  go_still_tail 9, (by kernel_rfl)
  change wpList _ _ _ _ _ w.drew
  generalize hV : w.drew = V at *
  have HV := Lib.hid hV
  clear hV
  go_wp2_with fail
  refine cm.mono ?_
  rintro e W ⟨p, rfl, hl, hb⟩
  have HL := Lib.hid hl
  have HW := Lib.hid hb
  clear cm hl hb
  go_wp2_with fail
  go_ret
  have e1 : V.heap.size = w.heap.size := by rw [← HV.out]; rfl
  exact ⟨p, rfl, by rw [← e1]; exact HL.out, HB.out.trans (HW.out.mono (by omega))⟩
end Go.Proofs.Ytcecndjkfdaaaaa
