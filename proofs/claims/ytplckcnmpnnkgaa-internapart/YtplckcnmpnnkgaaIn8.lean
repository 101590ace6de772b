/- The contract of (*Table).Clone. -/
import Derived.Test.YtplckcnmpnnkgaaIn5
import Derived.Shelf.SlMaps.Clone
import Derived.Deep.RegionHeld3
namespace Go.Proofs.Ytplckcnmpnnkgaa
open Go.RowKit Go.Maps
set_option linter.unusedVariables false
set_option linter.unusedSimpArgs false

/-- maps.clone, as the model runs it. -/
theorem mclone_run {r : Nat} {es : Array MapEntry} {clock : Nat} (w : World) (hb : w.heap[r]? = some (.map es clock)) :
    (callFunc 24 #[.iface 42 (.map (some r))]).run Try.prog w = .ok (.value (.iface 42 (.map (some w.heap.size)))) (w.alloc (.map es clock)) := by
  rw [run_callFunc_extern Try.func24 (by kernel_rfl) (by kernel_rfl) (by kernel_rfl) (e := Extern.MapsClone.clone) (by kernel_rfl), run_maps_clone_sl w 42 hb]
  rfl

set_option maxHeartbeats 1000000 in
theorem mclone_some (b : Nat) (es : Array MapEntry) (clock : Nat) (w : World) (hb : w.heap[b]? = some (.map es clock)) :
    Calls Try.prog 20 #[.map (some b)] w fun e w' => e = .returned (.map (some w.heap.size)) ∧ w' = w.alloc (.map es clock) := by
  have heq := eqlSome b
  have hrun := mclone_run w hb
  have hta := fun w' => run_typeAssert_map_sl (P := Try.prog) w' 42 20 9 2 (.map (some w.heap.size)) Try.underlying42
  go_enter Try.func20, Try.ntmps20
  go_wp2_with fail
  go_ret
  exact ⟨rfl, rfl⟩
theorem mclone_nil (w : World) : Calls Try.prog 20 #[.map none] w fun e w' => e = .returned (.map none) ∧ w = w' := by
  have heq := eqlNil
  go_enter Try.func20, Try.ntmps20
  go_wp2_with fail
  go_ret
  exact ⟨rfl, rfl⟩

theorem eqlSNil (w : World) : (binOp .eql 22 (.slice none 0 0) (.slice none 0 0)).run Try.prog w = .ok (.bool true) w := by kernel_rfl
theorem eqlSSome (x : Addr) (n c : Nat) (w : World) : (binOp .eql 22 (.slice (some x) n c) (.slice none 0 0)).run Try.prog w = .ok (.bool false) w := by kernel_rfl

def SClone (w : World) (ts : List ByteArray) (e : Ending) (w' : World) : Prop :=
  ∃ a cap, e = .returned (.slice a ts.length cap) ∧ w'.ownsRow w.heap.size 9 1 (.slice a ts.length cap) ts.length (ts.map Value.string) ∧ Below w.heap.size w w'

set_option maxHeartbeats 1000000 in
theorem sclone_calls (tv : Value) (ts : List ByteArray) (w : World) (hrow : w.ownsRow 0 9 1 tv ts.length (ts.map Value.string)) (hl : ts.length ≤ 100000) :
    Calls Try.prog 21 #[tv] w (SClone w ts) := by
  obtain ⟨i0, hi, hz0, hz1, hz2⟩ := info_parts info9
  have I := Lib.hid hi
  have Z0 := Lib.hid hz0
  have Z1 := Lib.hid hz1
  have Z2 := Lib.hid hz2
  clear hi hz0 hz1 hz2
  have hrow0 := hrow
  rcases hrow.2 with ⟨rfl, h0⟩ | ⟨r, cap, cur, rfl, hb, hr, hn, hm, hcs, ht⟩
  · obtain rfl : ts = [] := List.eq_nil_of_length_eq_zero h0
    clear hrow hrow0 h0
    have heq := eqlSNil
    go_enter Try.func21, Try.ntmps21
    go_wp2_with fail
    go_ret
    exact ⟨none, 0, rfl, World.ownsRow_nil _ _ _ _, Below.refl _ _⟩
  · have HR := Lib.hid hrow0
    clear hrow hrow0 hr hcs ht
    obtain ⟨B, hB⟩ : ∃ B, w.heap.size = B := ⟨_, rfl⟩
    have HB := Lib.hid hB
    clear hB
    have heq := eqlSSome ⟨r, 0, none⟩ ts.length cap
    go_enter Try.func21, Try.ntmps21
    go_wp2_with (first | (at_builtin; refine wpList_append_own _ rfl _ _ 22 rfl B 9 i0 (.string ⟨#[]⟩) 1 16 Try.underlying22 I.out Z0.out Z1.out Z2.out rfl (by decide) _ 0 [] rfl (World.ownsRow_made w #[] 0 (Nat.le_of_eq HB.out.symm) (by decide) rfl) ⟨r, 0, none⟩ ts.length cap (ts.map Value.string) rfl (by simp) ?c1 ?c2 ?c3 ?c4 ?c5 ?_))
    case c1 =>
      intro j u hj
      exact (HR.out.alloc _).cells rfl j u hj
    case c2 => intro u hu; obtain ⟨s, _, rfl⟩ := List.mem_map.1 hu; rfl
    case c3 => unfold maxLen; omega
    case c4 => omega
    case c5 => simp; have := HB.out; omega
    intro v' w1 hown' hgrow _
    obtain ⟨a', cap', rfl⟩ := row_form hown'
    have hbel : Below B w w1 := ((Below.refl B w).alloc (Nat.le_of_eq HB.out.symm) _).grown hgrow (by simp; have := HB.out; omega) (fun k hk => by simp [Value.ownBlock] at hk; have := HB.out; omega)
    clear hgrow
    go_wp2_with fail
    go_ret
    exact ⟨a', cap', rfl, by rw [HB.out]; exact hown', by rw [HB.out]; exact hbel⟩

/-- What maps.Clone gives of the table's map. -/
def MClone (ts : List ByteArray) (w : World) (e : Ending) (w' : World) : Prop :=
  ∃ mo : Option Nat, e = .returned (.map mo) ∧ Below w.heap.size w w' ∧ ((mo = none ∧ ts = []) ∨ ∃ b D, mo = some b ∧ w.heap.size ≤ b ∧ w'.ownsMap Try.prog 9 (plainElem Try.prog 2) b ts.length D ∧ MapReads D ts)

def CloneRet (ts : List ByteArray) (w : World) (e : Ending) (w' : World) : Prop :=
  ∃ g, e = .returned (.pointer (some ⟨g, 0, none⟩)) ∧ Tab (fun k => w.heap.size ≤ k) w' g ts ∧ Below w.heap.size w w'

theorem held_step {g : Nat} {mo : Option Nat} {a : Option Addr} {n cap : Nat} {B : Nat} {w w' w'' : World} (hg : g < B) (h : w'.cell? ⟨g, 0, none⟩ = some (.map mo) ∧ w'.cell? ⟨g, 1, none⟩ = some (.slice a n cap) ∧ Below B w w' ∧ B ≤ w'.heap.size) (hb : Below w'.heap.size w' w'') :
    w''.cell? ⟨g, 0, none⟩ = some (.map mo) ∧ w''.cell? ⟨g, 1, none⟩ = some (.slice a n cap) ∧ Below B w w'' ∧ B ≤ w''.heap.size :=
  ⟨(hb.cell (p := ⟨g, 0, none⟩) (by show g < _; omega)).trans h.1, (hb.cell (p := ⟨g, 1, none⟩) (by show g < _; omega)).trans h.2.1, h.2.2.1.trans (hb.mono h.2.2.2), Nat.le_trans h.2.2.2 hb.size⟩

theorem clone_done {B : Nat} {w w4 w5 : World} {mo : Option Nat} {a : Option Addr} {cap : Nat} {ts : List ByteArray} (hB : B ≤ w.heap.size) (hb4 : Below w.heap.size w w4)
    (hm : (mo = none ∧ ts = []) ∨ ∃ b D, mo = some b ∧ w.heap.size ≤ b ∧ w4.ownsMap Try.prog 9 (plainElem Try.prog 2) b ts.length D ∧ MapReads D ts)
    (hb5 : Below w4.heap.size w4 w5) (hr5 : w5.ownsRow w4.heap.size 9 1 (.slice a ts.length cap) ts.length (ts.map Value.string)) :
    Tab (fun k => B ≤ k) (w5.alloc (.cells #[.map mo, .slice a ts.length cap] 44)) w5.heap.size ts ∧ Below B w (w5.alloc (.cells #[.map mo, .slice a ts.length cap] 44)) := by
  have h4 := hb4.size
  have h5 := hb5.size
  refine ⟨⟨by show B ≤ _; omega, .map mo, .slice a ts.length cap, heap_alloc_new w5 _, ?_, ?_, ?_⟩, ?_⟩
  · refine ⟨hr5.1, ?_⟩
    rcases (hr5.alloc (.cells #[.map mo, .slice a ts.length cap] 44)).2 with h0 | ⟨r, c, cur, h1, _, h3⟩
    · exact .inl h0
    · exact .inr ⟨r, c, cur, h1, Nat.zero_le _, h3⟩
  · intro k hk; have := (hr5.lt k hk).1; show B ≤ k; omega
  · rcases hm with ⟨rfl, h0⟩ | ⟨b, D, rfl, hb, hown, hD⟩
    · exact .inl ⟨rfl, h0⟩
    · refine .inr ⟨b, D, rfl, by show B ≤ b; omega, World.ownsMap.alloc (hown.kept (row := none) ⟨hb5.os, hb5.tape, hb5.output, hb5.size, fun k hk _ => hb5.block k hk⟩ (by simp)) _, hD⟩
  · exact (((hb4.mono hB).trans (hb5.mono (by omega))).alloc (by omega) _)

set_option maxHeartbeats 2000000 in
theorem clone_calls {N : Nat → Prop} {w : World} {g : Nat} {ts : List ByteArray} (h : Tab N w g ts) (hl : ts.length ≤ 100000) :
    Calls Try.prog 17 #[.pointer (some ⟨g, 0, none⟩)] w (CloneRet ts w) := by
  have hgl := h.lt
  obtain ⟨hN, mv, tv, hg, hrow, hrN, hm⟩ := h
  obtain ⟨a, cap, rfl⟩ := row_form hrow
  obtain ⟨mo, rfl⟩ : ∃ mo, mv = .map mo := by rcases hm with ⟨rfl, _⟩ | ⟨b, D, rfl, _⟩ <;> exact ⟨_, rfl⟩
  have c0 : w.cell? ⟨g, 0, none⟩ = some (.map mo) := by rw [cell_of_row w g 0 _ 44 (0, 0) hg]; rfl
  have c1 : w.cell? ⟨g, 1, none⟩ = some (.slice a ts.length cap) := by rw [cell_of_row w g 1 _ 44 (0, 0) hg]; rfl
  obtain ⟨B, hB⟩ : ∃ B, w.heap.size = B := ⟨_, rfl⟩
  have mc : ∀ w', Below B w w' → Calls Try.prog 20 #[.map mo] w' (MClone ts w') := by
    intro w' hbw
    rcases hm with ⟨e, rfl⟩ | ⟨b, D, e, _, hown, hD⟩
    · cases e
      refine (mclone_nil w').mono ?_
      rintro e w2 ⟨rfl, rfl⟩
      exact ⟨none, rfl, Below.refl _ _, .inl ⟨rfl, rfl⟩⟩
    · cases e
      obtain ⟨es, clock, hb, F, hs, hD'⟩ := hown
      have hbl : b < w.heap.size := (Array.getElem?_eq_some_iff.1 hb).1
      have hb' : w'.heap[b]? = some (.map es clock) := (hbw.block b (by omega)).trans hb
      refine (mclone_some b es clock w' hb').mono ?_
      rintro e w2 ⟨rfl, rfl⟩
      exact ⟨some w'.heap.size, rfl, (Below.refl _ _).alloc (Nat.le_refl _) _, .inr ⟨_, D, rfl, Nat.le_refl _, ⟨es, clock, (MapKept.heap_alloc w' _).1, F, hs, hD'⟩, hD⟩⟩
  have sc : ∀ w', Below B w w' → Calls Try.prog 21 #[.slice a ts.length cap] w' (SClone w' ts) := by
    intro w' hbw
    refine sclone_calls _ ts w' ?_ hl
    refine hrow.kept (row := none) ⟨hbw.os, hbw.tape, hbw.output, hbw.size, fun k hk _ => hbw.block k (by omega)⟩ (by cases (Value.slice a ts.length cap).ownBlock <;> simp)
  have HB := Lib.hid hB
  have hgB : g < B := by omega
  have MC := Lib.hid mc
  have SC := Lib.hid sc
  clear hm hrow hrN hg mc sc hB
  have s0 : Below B w w ∧ B ≤ w.heap.size := ⟨Below.refl _ _, Nat.le_of_eq HB.out.symm⟩
  obtain ⟨s1, s2⟩ := s0
  go_enter Try.func17, Try.ntmps17
  go_wp2_with fail
  go_region_held3 (fun w' => w'.cell? ⟨g, 0, none⟩ = some (.map mo) ∧ w'.cell? ⟨g, 1, none⟩ = some (.slice a ts.length cap) ∧ Below B w w' ∧ B ≤ w'.heap.size)
    (first | (exact ⟨c0, c1, s1.drew, s2⟩) | (exact held_step hgB ‹_ ∧ _ ∧ _ ∧ _› ‹Below _ _ _›) | (exact held_step hgB ‹_ ∧ _ ∧ _ ∧ _› ((Below.refl _ _).alloc (Nat.le_refl _) _)))
    (first
      | (go_at_call 20; (with_reducible refine (MC.out _ (And.left (And.right (And.right ‹_ ∧ _ ∧ Below B w _ ∧ _›)))).mono ?_); rintro e w4 ⟨mo4, rfl, hb4, hm4⟩)
      | (go_at_call 21; (with_reducible refine (SC.out _ (And.left (And.right (And.right ‹_ ∧ _ ∧ Below B w _ ∧ _›)))).mono ?_); rintro e w5 ⟨a5, cap5, rfl, hr5, hb5⟩))
  have hD := clone_done (B := B) (w := w.drew) (Nat.le_of_eq HB.out.symm) hb4 hm4 hb5 hr5
  go_wp2_with fail
  go_ret
  exact ⟨w5.heap.size, rfl, by rw [HB.out]; exact hD.1, by rw [HB.out]; exact ((Below.refl B w).drew).trans hD.2⟩
end Go.Proofs.Ytplckcnmpnnkgaa
