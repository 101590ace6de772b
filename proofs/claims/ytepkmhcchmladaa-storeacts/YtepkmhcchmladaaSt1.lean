import Derived.Test.YtepkmhcchmladaaSl
import Derived.Test.YtepkmhcchmladaaBy3
import Derived.Test.YtepkmhcchmladaaMr4
/- Relations that lie apart from what is turned; a store in memory. -/
namespace Go.Proofs.Ytepkmhcchmladaa
open Go.RowKit Go.Maps
set_option linter.unusedVariables false
set_option linter.unusedSimpArgs false

abbrev SP := Option Addr × List (List Int)
/-- A relation that lies in no block of G. -/
def SegN (G : Nat → Prop) (wr : World) (wd : Nat) (s : SP) : Prop :=
  ∃ (L : Nat) (wk : World), (∀ W, Later L wk W → Seg W s.1 wd s.2) ∧ Later L wk wr ∧ ∀ b, G b → b < L ∨ wk.heap.size ≤ b
theorem SegN.seg {G : Nat → Prop} {wr : World} {wd : Nat} {s : SP} (h : SegN G wr wd s) : Seg wr s.1 wd s.2 := by
  obtain ⟨L, wk, h1, h2, _⟩ := h; exact h1 _ h2
theorem SegN.step {G G' M : Nat → Prop} {w w' : World} {wd : Nat} {s : SP} (h : SegN G w wd s) (hk : Keeps M w w') (hM : ∀ b, M b → G b) (hG : ∀ b, G' b → G b ∨ w.heap.size ≤ b) : SegN G' w' wd s := by
  obtain ⟨L, wk, h1, h2, h3⟩ := h
  refine ⟨L, wk, h1, ⟨Nat.le_trans h2.1 hk.size, fun k hk1 hk2 => ?_⟩, fun b hb => ?_⟩
  · rw [hk.block k (Nat.lt_of_lt_of_le hk2 h2.1) (fun e => by have := h3 k (hM k e); omega)]
    exact h2.2 k hk1 hk2
  · rcases hG b hb with h | h
    · exact h3 b h
    · exact .inr (Nat.le_trans h2.1 h)
theorem SegN.below {G : Nat → Prop} {w w' : World} {wd : Nat} {s : SP} (h : SegN G w wd s) (hb : Below w.heap.size w w') : SegN G w' wd s :=
  h.step (M := fun _ => False) (Keeps.of_below hb) (fun _ h => h.elim) (fun _ h => .inl h)
theorem SegN.less {G G' : Nat → Prop} {w : World} {wd : Nat} {s : SP} (h : SegN G w wd s) (hG : ∀ b, G' b → G b) : SegN G' w wd s :=
  h.step (M := fun _ => False) (Keeps.refl _ _) (fun _ h => h.elim) (fun b h => .inl (hG b h))
/-- A relation that a call has just made. -/
theorem SegN.new {G : Nat → Prop} {w w' : World} {wd : Nat} {s : SP} (h : ∀ W, Later w.heap.size w' W → Seg W s.1 wd s.2) (hG : ∀ b, G b → b < w.heap.size) : SegN G w' wd s :=
  ⟨w.heap.size, w', h, Later.refl _ _, fun b hb => .inl (hG b hb)⟩
theorem SegN.op {G : Nat → Prop} {w w' : World} {wd : Nat} {src : List SP} {p : Option Addr} {rs : List (List Int)} (hs : ∀ s ∈ src, SegN G w wd s) (hG : ∀ b, G b → b < w.heap.size) (hb : Below w.heap.size w w') (h : (p, rs) ∈ src ∨ ∀ W, Later w.heap.size w' W → Seg W p wd rs) : SegN G w' wd (p, rs) := by
  rcases h with h | h
  · exact (hs _ h).below hb
  · exact SegN.new (s := (p, rs)) h hG
theorem SegN.none (G : Nat → Prop) (w : World) (hG : ∀ b, G b → b < w.heap.size) : SegN G w 0 (none, []) :=
  ⟨w.heap.size, w, fun W _ => ⟨List.Pairwise.nil, (fun r hr => by cases hr), .inl ⟨rfl, rfl, rfl⟩⟩, Later.refl _ _, fun b hb => .inl (hG b hb)⟩

/-- A store at block g: its width, its bound of runs, its runs segs, its delta d, the rows K that its map knows; its own blocks are of N, all that may turn is of G. -/
structure StK (N G : Nat → Prop) (w : World) (g wd : Nat) (most : Int) (segs : List SP) (d : SP) (rv kv : Value) (K : List (List Int)) : Prop where
  blk : w.heap[g]? = some (.cells #[.int .i64 wd, .int .i64 most, rv, .pointer d.1, kv] 70 (0, 0))
  runs : w.ownsRow 0 30 1 rv segs.length ((segs.map Prod.fst).map Value.pointer)
  seg : ∀ s ∈ segs, SegN G w wd s
  del : SegN G w wd d
  known : (kv = .map none ∧ K = []) ∨ ∃ b D, kv = .map (some b) ∧ N b ∧ w.ownsMap Try.prog 9 unitElem b K.length D ∧ MapHas D (K.map keyText)
  gN : N g
  rN : ∀ b, rv.ownBlock = some b → N b
  sub : ∀ b, N b → G b
  lt : ∀ b, G b → b < w.heap.size
theorem StK.cells {N G : Nat → Prop} {w : World} {g wd : Nat} {most : Int} {segs : List SP} {d : SP} {rv kv : Value} {K : List (List Int)} (h : StK N G w g wd most segs d rv kv K) :
    w.cell? ⟨g, 0, none⟩ = some (.int .i64 wd) ∧ w.cell? ⟨g, 1, none⟩ = some (.int .i64 most) ∧ w.cell? ⟨g, 2, none⟩ = some rv ∧ w.cell? ⟨g, 3, none⟩ = some (.pointer d.1) ∧ w.cell? ⟨g, 4, none⟩ = some kv ∧ ∀ i, w.frozen? ⟨g, i, none⟩ = false :=
  ⟨by simp [World.cell?, h.blk], by simp [World.cell?, h.blk], by simp [World.cell?, h.blk], by simp [World.cell?, h.blk], by simp [World.cell?, h.blk], fun i => by simp [World.frozen?, h.blk]⟩
/-- Other blocks have turned, and more may turn from now on. -/
theorem StK.keeps {N G G' M : Nat → Prop} {w w' : World} {g wd : Nat} {most : Int} {segs : List SP} {d : SP} {rv kv : Value} {K : List (List Int)} (h : StK N G w g wd most segs d rv kv K) (hk : Keeps M w w') (hMG : ∀ b, M b → G b) (hMN : ∀ b, M b → ¬ N b) (hG : ∀ b, G' b → G b ∨ w.heap.size ≤ b) (hN : ∀ b, N b → G' b) (hlt : ∀ b, G' b → b < w'.heap.size) : StK N G' w' g wd most segs d rv kv K := by
  have gl := (Array.getElem?_eq_some_iff.1 h.blk).1
  refine ⟨(hk.block g gl (fun e => hMN g e h.gN)).trans h.blk, owns_keeps h.runs hk (fun b hb e => hMN b e (h.rN b hb)), fun s hs => (h.seg s hs).step hk hMG hG, h.del.step hk hMG hG, ?_, h.gN, h.rN, hN, hlt⟩
  rcases h.known with h1 | ⟨b, D, h1, h2, h3, h4⟩
  · exact .inl h1
  · exact .inr ⟨b, D, h1, h2, map_keeps h3 hk (fun e => hMN b e h2), h4⟩
theorem StK.below {N G : Nat → Prop} {w w' : World} {g wd : Nat} {most : Int} {segs : List SP} {d : SP} {rv kv : Value} {K : List (List Int)} (h : StK N G w g wd most segs d rv kv K) (hb : Below w.heap.size w w') : StK N G w' g wd most segs d rv kv K :=
  h.keeps (M := fun _ => False) (Keeps.of_below hb) (fun _ h => h.elim) (fun _ h => h.elim) (fun _ h => .inl h) h.sub (fun b hb' => Nat.lt_of_lt_of_le (h.lt b hb') hb.size)
theorem StK.ptrs {N G : Nat → Prop} {w : World} {g wd : Nat} {most : Int} {segs : List SP} {d : SP} {rv kv : Value} {K : List (List Int)} (h : StK N G w g wd most segs d rv kv K) : ∃ a cap, rv = .slice a segs.length cap ∧ PRow' w a (segs.map Prod.fst) ∧ (segs ≠ [] → ∃ q, a = some q) := by
  obtain ⟨a, cap, e, h1, h2, _⟩ := prow_of_owns h.runs
  refine ⟨a, cap, by simpa using e, h2, fun hne => ?_⟩
  rcases h2 with h0 | ⟨b, off, ha, _⟩
  · exact absurd (by simpa using h0) hne
  · exact ⟨_, ha⟩
theorem delta_calls {N G : Nat → Prop} {w : World} {g wd : Nat} {most : Int} {segs : List SP} {d : SP} {rv kv : Value} {K : List (List Int)} (h : StK N G w g wd most segs d rv kv K) : Calls Try.prog 25 #[.pointer (some ⟨g, 0, none⟩)] w fun e w' => e = .returned (.pointer d.1) ∧ w = w' := by
  obtain ⟨_, _, _, c3, _⟩ := h.cells
  clear h
  go_enter Try.func25, Try.ntmps25
  go_wp2_with fail
  go_ret
  exact ⟨rfl, rfl⟩
theorem runs_calls {N G : Nat → Prop} {w : World} {g wd : Nat} {most : Int} {segs : List SP} {d : SP} {rv kv : Value} {K : List (List Int)} (h : StK N G w g wd most segs d rv kv K) : Calls Try.prog 27 #[.pointer (some ⟨g, 0, none⟩)] w fun e w' => e = .returned (.int .i64 segs.length) ∧ w = w' := by
  obtain ⟨_, _, c2, _⟩ := h.cells
  obtain ⟨a, cap, rfl, _⟩ := h.ptrs
  clear h
  go_enter Try.func27, Try.ntmps27
  go_wp2_with fail
  go_ret
  exact ⟨rfl, rfl⟩
/-- own: rows of another width are none. -/
def OwnRet (G : Nat → Prop) (w : World) (wd : Nat) (wd' : Nat) (s : SP) (e : Ending) (w' : World) : Prop :=
  ∃ q, e = .returned (.pointer q) ∧ SegN G w' wd (q, if wd' = wd then s.2 else []) ∧ Below w.heap.size w w'
set_option maxRecDepth 100000 in
theorem own_calls {N G : Nat → Prop} {w : World} {g wd : Nat} {most : Int} {segs : List SP} {d : SP} {rv kv : Value} {K : List (List Int)} (h : StK N G w g wd most segs d rv kv K) {wd' : Nat} {s : SP} (hs : SegN G w wd' s) (hwd : wd ≤ 1000) : Calls Try.prog 50 #[.pointer (some ⟨g, 0, none⟩), .pointer s.1] w (OwnRet G w wd wd' s) := by
  obtain ⟨c0, _⟩ := h.cells
  have HLT := Lib.hid h.lt
  have HG := Lib.hid (Array.getElem?_eq_some_iff.1 h.blk).1
  have cw : ∀ q, Calls Try.prog 36 #[.pointer s.1] (w.drewN q) fun e w' => e = .returned (.int .i64 wd') ∧ w' = w.drewN q := fun q => (segWidth_calls (hs.below (below_drewN (Below.refl _ w) q)).seg).mono fun e w' h => ⟨h.1, h.2.symm⟩
  have HS := Lib.hid hs
  clear h hs
  by_cases hw : wd' = wd
  · have t1 : ((wd' : Int) != (wd : Int)) = false := by simp [hw]
    have HW := Lib.hid hw
    clear hw
    go_enter Try.func50, Try.ntmps50
    go_wp2_with fail
    go_quiet ((exact Calls.quiet_of_same (cw _)))
    have F := Lib.hid (show OwnRet G w wd wd' s (.returned (.pointer s.1)) (w.drewN nq) from ⟨_, rfl, by rw [if_pos HW.out, ← HW.out]; exact HS.out.below (below_drewN (Below.refl _ w) nq), below_drewN (Below.refl _ w) nq⟩)
    go_wp2_with fail
    go_ret
    exact F.out
  · have t1 : ((wd' : Int) != (wd : Int)) = true := by simp; omega
    have HW := Lib.hid hw
    clear hw
    go_enter Try.func50, Try.ntmps50
    go_wp2_with fail
    go_quiet ((exact Calls.quiet_of_same (cw _)))
    have c1 : (w.drewN nq).cell? ⟨g, 0, none⟩ = some (.int .i64 wd) := c0
    have cm := make_later wd none 0 [] (w.drewN nq) ⟨.inl rfl, fun x hx => by cases hx⟩ hwd (by simp) (fun x hx => by cases hx)
    have hrel : relOf (wd : Int) (([] : List RV).map (·.2.1)) = [] := rfl
    rw [hrel] at cm
    have HLT2 : Hid (∀ b, G b → b < (w.drewN nq).heap.size) := Lib.hid (fun b hb => HLT.out b hb)
    have BN := Lib.hid (below_drewN (Below.refl w.heap.size w) nq)
    clear c0 cw
    generalize w.drewN nq = W at *
    go_wp2_with fail
    refine cm.mono ?_
    rintro e w2 ⟨q, rfl, hl, hb⟩
    have F := Lib.hid (show OwnRet G w wd wd' s (.returned (.pointer q)) w2 from ⟨q, rfl, by rw [if_neg HW.out]; exact SegN.new (s := (q, [])) hl HLT2.out, BN.out.trans (hb.mono BN.out.size)⟩)
    clear hl hb cm
    go_wp2_with fail
    go_ret
    exact F.out
end Go.Proofs.Ytepkmhcchmladaa
