/- Parts that were made, in a row that grows. Written by mkszr.py. -/
import Derived.Test.YtaglbeokecbihaaDoorSyV
import Derived.Test.YtaglbeokecbihaaDoorSzA
namespace Go.Proofs.YtaglbeokecbihaaDoor
open Go.RowKit
set_option linter.unusedVariables false
set_option linter.unusedSimpArgs false

/-- A part as it came in. -/
structure PT where
  f : Int
  o : Int
  pn : Int
  T : List TV
  x1 : Int
  x2 : Int
  x3 : Int
  y1 : Int
  y2 : Int
  y3 : Int
  e : ET
def PC (B : Nat) (w : World) (p : PT) (cs : List Value) : Prop := ∃ (a : Option Addr) (cap : Nat) (e1 e2 e3 e4 : Int) (e5 : Option Addr) (e6 e7 : Nat), cs = [.int .i64 p.f, .int .i64 p.o, .int .i64 p.pn, .slice a p.T.length cap, .int .i64 p.x1, .int .i64 p.x2, .int .i64 p.x3, .int .i64 p.y1, .int .i64 p.y2, .int .i64 p.y3, .int .i64 e1, .int .i64 e2, .int .i64 e3, .int .i64 e4, .slice e5 e6 e7] ∧ TIn B w a p.T ∧ Gok p.x3 ∧ Gok p.y3 ∧ EIn B w p.e ⟨e1, e2, e3, e4, e5, e6, e7⟩
theorem PC.on {B : Nat} {w w' : World} {p : PT} {cs : List Value} (h : PC B w p cs) (hb : Below B w w') : PC B w' p cs := by
  obtain ⟨a, cap, e1, e2, e3, e4, e5, e6, e7, h1, h2, h3, h4, h5⟩ := h
  exact ⟨a, cap, e1, e2, e3, e4, e5, e6, e7, h1, h2.on hb, h3, h4, h5.on hb⟩
def zeroPT : PT := ⟨0, 0, 0, [], 0, 0, 0, 0, 0, 0, .none 0 0 0 0⟩
def paAt (l : List PT) (i : Nat) : PT := l[i]?.getD zeroPT
theorem paAt_mem {l : List PT} {i : Nat} (h : i < l.length) : paAt l i ∈ l := by simp only [paAt, List.getElem?_eq_getElem h, Option.getD_some]; exact List.getElem_mem h
/-- The slice at a reads as the parts ps that came in, before block B. -/
def PIn (B : Nat) (w : World) (a : Option Addr) (ps : List PT) : Prop := ps = [] ∨ ∃ b off, a = some ⟨b, off, none⟩ ∧ b < B ∧ ∀ i, i < ps.length → ∃ cs, PC B w (paAt ps i) cs ∧ ∀ j u, cs[j]? = some u → w.cell? ⟨b, off + i * 15 + j, none⟩ = some u
theorem PIn.on {B : Nat} {w w' : World} {a : Option Addr} {ps : List PT} (h : PIn B w a ps) (hb : Below B w w') : PIn B w' a ps := by
  rcases h with h0 | ⟨b, off, ha, hlt, hc⟩
  · exact .inl h0
  · refine .inr ⟨b, off, ha, hlt, fun i hi => ?_⟩
    obtain ⟨cs, h1, h2⟩ := hc i hi
    exact ⟨cs, h1.on hb, fun j u hu => (hb.cell (p := ⟨b, _, none⟩) hlt).trans (h2 j u hu)⟩
theorem PIn.at {B : Nat} {w : World} {a : Option Addr} {ps : List PT} (h : PIn B w a ps) {i : Nat} (hi : i < ps.length) : ∃ b off cs, a = some ⟨b, off, none⟩ ∧ b < B ∧ PC B w (paAt ps i) cs ∧ ∀ j u, cs[j]? = some u → w.cell? ⟨b, off + i * 15 + j, none⟩ = some u := by
  rcases h with h0 | ⟨b, off, ha, hlt, hc⟩
  · subst h0; simp at hi
  · obtain ⟨cs, h1, h2⟩ := hc i hi
    exact ⟨b, off, cs, ha, hlt, h1, h2⟩
/-- The part that is made of it. -/
def ptT (p : PT) : Pt := ptM p.f p.o p.pn p.T p.x1 p.x2 p.x3 p.y1 p.y2 p.y3 p.e
def fewP (p : PT) : Prop := p.T.length ≤ 6 ∧ cnt 0 p.e ≤ 40
theorem PtV.mono {N M : Nat} {w : World} {p : Pt} {cs : Array Value} (h : PtV N w p cs) (hM : N ≤ M) : PtV M w p cs := by
  cases p with
  | pos pred l => obtain ⟨a, c, h1, h2, h3⟩ := h; exact ⟨a, c, h1, h2.mono hM, h3⟩
  | neg pred l => obtain ⟨a, c, h1, h2, h3⟩ := h; exact ⟨a, c, h1, h2.mono hM, h3⟩
  | cmp op ta tb => exact h
  | letx nm x => obtain ⟨k1, k2, k3, k4, k5, k6, k7, h1, h2, h3⟩ := h; exact ⟨k1, k2, k3, k4, k5, k6, k7, h1, h2.mono hM, h3⟩
/-- The value cs is the part p, and stays it while the blocks from L on, but q, stay. -/
def PtK (L : Nat) (q : Option Nat) (W : World) (p : Pt) (cs : Array Value) : Prop := ∀ w' : World, (∀ k, L ≤ k → k < W.heap.size → some k ≠ q → w'.heap[k]? = W.heap[k]?) → PtV W.heap.size w' p cs
theorem PtK.now {L : Nat} {q : Option Nat} {W : World} {p : Pt} {cs : Array Value} (h : PtK L q W p cs) : PtV W.heap.size W p cs := h W (fun _ _ _ _ => rfl)
theorem PtK.step {L : Nat} {q q' : Option Nat} {W W' : World} {p : Pt} {cs : Array Value} (h : PtK L q W p cs) (hs : W.heap.size ≤ W'.heap.size) (hk : ∀ k, L ≤ k → k < W.heap.size → some k ≠ q → W'.heap[k]? = W.heap[k]?) (hq : ∀ b, q' = some b → q = some b ∨ W.heap.size ≤ b) : PtK L q' W' p cs := fun w'' h'' =>
  (h w'' (fun k h1 h2 h3 => (h'' k h1 (by omega) (fun e => by
    rcases hq k e.symm with h4 | h4
    · exact h3 h4.symm
    · omega)).trans (hk k h1 h2 h3))).mono hs
theorem PtK.low {L L' : Nat} {q : Option Nat} {W : World} {p : Pt} {cs : Array Value} (h : PtK L q W p cs) (hL : L' ≤ L) : PtK L' q W p cs := fun w' h' => h w' (fun k h1 h2 h3 => h' k (by omega) h2 h3)
/-- A part that was just made. -/
def PartK (w : World) (p : Pt) (e : Ending) (w' : World) : Prop := ∃ v0 v1 v2 v3 v4 v5 v6 v7 v8 v9 v10 v11 v12 v13 v14 v15, e = .returned (.agg #[v0, v1, v2, v3, v4, v5, v6, v7, v8, v9, v10, v11, v12, v13, v14, v15]) ∧ Below w.heap.size w w' ∧ ∀ q : Option Nat, (∀ b, q = some b → b < w.heap.size) → PtK w.heap.size q w' p #[v0, v1, v2, v3, v4, v5, v6, v7, v8, v9, v10, v11, v12, v13, v14, v15]
theorem fr_k {w w' w'' : World} {a : Option Addr} {l : List Tm} {q : Option Nat} (h : TmFr w.heap.size w'.heap.size w' a l) (hq : ∀ b, q = some b → b < w.heap.size) (hk : ∀ k, w.heap.size ≤ k → k < w'.heap.size → some k ≠ q → w''.heap[k]? = w'.heap[k]?) : TmRow w'.heap.size w'' a l :=
  (h.on (fun k h1 h2 => hk k h1 h2 (fun e => by have := hq k e.symm; omega))).into
theorem partOf_k {B : Nat} {w : World} {p : PT} {cs : List Value} (h : PC B w p cs) (hB : B ≤ w.heap.size) (hf : fewP p) : Calls Tryd.prog 17 #[.agg cs.toArray] w (PartK w (ptT p)) := by
  obtain ⟨a, cap, e1, e2, e3, e4, e5, e6, e7, rfl, hT, hx, hy, he⟩ := h
  obtain ⟨f, o, pn, T, x1, x2, x3, y1, y2, y3, e⟩ := p
  obtain ⟨hl0, hc⟩ := hf
  have hl : T.length ≤ 10 := by have : T.length ≤ 6 := hl0; omega
  have hn : (xM e).nodes ≤ 40 := Nat.le_trans (cnt_nodes e 0 hc) hc
  show Calls _ _ _ _ (PartK w (ptM f o pn T x1 x2 x3 y1 y2 y3 e))
  unfold ptM
  by_cases h3 : uN f % 6 = 3
  · rw [if_pos h3]
    refine (part_neg f o pn a T cap x1 x2 x3 y1 y2 y3 e1 e2 e3 e4 e5 e6 e7 w h3 hB hT hl).mono fun e' w' h => ?_
    obtain ⟨av, cv, h1, h2, h4⟩ := h
    exact ⟨_, _, _, _, _, _, _, _, _, _, _, _, _, _, _, _, h1, h4, fun q hq w'' hk => ⟨av, cv, rfl, fr_k h2 hq hk, predS_100 _, atomL_len hl⟩⟩
  rw [if_neg h3]
  by_cases h4 : uN f % 6 = 4
  · rw [if_pos h4]
    refine (part_cmp f o pn a T cap x1 x2 x3 y1 y2 y3 e1 e2 e3 e4 e5 e6 e7 w h4).mono fun e' w' h => ?_
    exact ⟨_, _, _, _, _, _, _, _, _, _, _, _, _, _, _, _, h.1, h.2, fun q hq w'' hk => ⟨rfl, Nat.mod_lt _ (by omega), tmM_ok _ _ _ hx.1 hx.2, tmM_ok _ _ _ hy.1 hy.2⟩⟩
  rw [if_neg h4]
  by_cases h5 : uN f % 6 = 5
  · rw [if_pos h5]
    refine (part_let f o pn a T cap x1 x2 x3 y1 y2 y3 e1 e2 e3 e4 e5 e6 e7 w h5 hB he).mono fun e' w' h => ?_
    obtain ⟨k1, k2, k3, k4, k5, k6, k7, h1, h2, h6⟩ := h
    have hlen : (exprB (xM e)).length ≤ 50 * (xM e).nodes := exprB_len h2.into
    exact ⟨_, _, _, _, _, _, _, _, _, _, _, _, _, _, _, _, h1, h6, fun q hq w'' hk => ⟨k1, k2, k3, k4, k5, k6, k7, rfl, (h2.on (fun k h7 h8 => hk k h7 h8 (fun e => by have := hq k e.symm; omega))).into, varS_100 _, by omega⟩⟩
  rw [if_neg h5]
  refine (part_pos f o pn a T cap x1 x2 x3 y1 y2 y3 e1 e2 e3 e4 e5 e6 e7 w ⟨h3, h4, h5⟩ hB hT hl).mono fun e' w' h => ?_
  obtain ⟨av, cv, h1, h2, h4⟩ := h
  exact ⟨_, _, _, _, _, _, _, _, _, _, _, _, _, _, _, _, h1, h4, fun q hq w'' hk => ⟨av, cv, rfl, fr_k h2 hq hk, predS_100 _, atomL_len hl⟩⟩
theorem flat16 {n : Nat} : ∀ (css : List (List Value)), (∀ cs ∈ css, cs.length = n) → ∀ i j, i < css.length → j < n → css.flatten[i * n + j]? = (css[i]?.getD [])[j]?
  | [], _, i, _, hi, _ => by simp at hi
  | cs :: css, h, i, j, hi, hj => by
    have hc : cs.length = n := h cs (List.mem_cons_self ..)
    cases i with
    | zero => simp [List.flatten_cons, List.getElem?_append, hc, hj]
    | succ i =>
      have := flat16 css (fun c h1 => h c (List.mem_cons_of_mem _ h1)) i j (by simpa using hi) hj
      rw [List.flatten_cons, List.getElem?_append_right (by rw [hc, Nat.add_mul]; omega), hc, show (i + 1) * n + j - n = i * n + j by rw [Nat.add_mul]; omega, this]
      simp
theorem flat_len {n : Nat} : ∀ (css : List (List Value)), (∀ cs ∈ css, cs.length = n) → css.flatten.length = css.length * n
  | [], _ => by simp
  | cs :: css, h => by
    rw [List.flatten_cons, List.length_append, flat_len css (fun c h1 => h c (List.mem_cons_of_mem _ h1)), h cs (List.mem_cons_self ..), List.length_cons, Nat.add_mul]; omega
/-- A row of parts under way, all from block L on. -/
structure PRow (L : Nat) (W : World) (v : Value) (ps : List Pt) : Prop where
  ex : ∃ css : List (List Value), css.length = ps.length ∧ (∀ cs ∈ css, cs.length = 16) ∧ W.ownsRow L 59 16 v ps.length css.flatten ∧ ∀ i, i < ps.length → PtK L v.ownBlock W (ptAt ps i) (css[i]?.getD []).toArray
theorem prow_nil (L : Nat) (W : World) : PRow L W (.slice none 0 0) [] := ⟨⟨[], rfl, (fun _ h => by cases h), World.ownsRow_nil _ _ _ _, (fun i hi => absurd hi (Nat.not_lt_zero i))⟩⟩
theorem PRow.shape {L : Nat} {W : World} {v : Value} {ps : List Pt} (h : PRow L W v ps) : ∃ a c, v = .slice a ps.length c ∧ ∀ b, v.ownBlock = some b → L ≤ b ∧ b < W.heap.size := by
  obtain ⟨css, h1, h2, h3, h4⟩ := h.ex
  rcases h3.2 with ⟨rfl, h0⟩ | ⟨g, cap, cur, rfl, hb, hh, _⟩
  · exact ⟨none, 0, by rw [h0], (fun b hb => by cases hb)⟩
  · exact ⟨_, cap, rfl, h3.lt⟩
theorem PRow.on {L : Nat} {W W' : World} {v : Value} {ps : List Pt} (h : PRow L W v ps) (hs : W.heap.size ≤ W'.heap.size) (hk : ∀ k, L ≤ k → k < W.heap.size → W'.heap[k]? = W.heap[k]?) : PRow L W' v ps := by
  obtain ⟨css, h1, h2, h3, h4⟩ := h.ex
  exact ⟨⟨css, h1, h2, owns_on h3 hk, fun i hi => (h4 i hi).step hs (fun k a b _ => hk k a b) (fun b hb => .inl hb)⟩⟩
theorem i59 : (Tryd.prog.info? 59).map (fun i => (i.zero, i.size, i.bytes)) = some (some (.agg #[.int .i64 0, .string ⟨#[]⟩, .slice none 0 0, .int .i64 0, .int .i64 0, .string ⟨#[]⟩, .int .i64 0, .int .i64 0, .string ⟨#[]⟩, .int .i64 0, .string ⟨#[]⟩, .int .i64 0, .string ⟨#[]⟩, .int .i64 0, .int .i64 0, .slice none 0 0]), 16, 200) := by kernel_rfl
/-- A part that was just made, appended. -/
theorem PRow.app {L : Nat} {W W5 : World} {v : Value} {ps : List Pt} (h : PRow L W v ps) (hL : L ≤ W.heap.size) (hb5 : Below W.heap.size W W5) {p : Pt} {v0 v1 v2 v3 v4 v5 v6 v7 v8 v9 v10 v11 v12 v13 v14 v15 : Value} (hk : ∀ q : Option Nat, (∀ b, q = some b → b < W.heap.size) → PtK W.heap.size q W5 p #[v0, v1, v2, v3, v4, v5, v6, v7, v8, v9, v10, v11, v12, v13, v14, v15]) (h1 : ∀ u ∈ [v0, v1, v2, v3, v4, v5, v6, v7, v8, v9, v10, v11, v12, v13, v14, v15], u.oneCell' = true) (hl : ps.length ≤ 1000) {H : Nat} (hH : W5.heap.size = H) :
    ∃ v' W7, (appM #[69, 69] 69 #[v, .slice (some ⟨H, 0, none⟩) 1 1]).run Tryd.prog (W5.alloc (.cells #[v0, v1, v2, v3, v4, v5, v6, v7, v8, v9, v10, v11, v12, v13, v14, v15] 59)) = .ok v' W7 ∧ PRow L W7 v' (ps ++ [p]) ∧ (W5.alloc (.cells #[v0, v1, v2, v3, v4, v5, v6, v7, v8, v9, v10, v11, v12, v13, v14, v15] 59)).grownBy W7 v.ownBlock := by
  subst hH
  obtain ⟨i0, hi0, hz0, hz1, hz2⟩ : ∃ i0, Tryd.prog.info? 59 = some i0 ∧ i0.zero = some (.agg #[.int .i64 0, .string ⟨#[]⟩, .slice none 0 0, .int .i64 0, .int .i64 0, .string ⟨#[]⟩, .int .i64 0, .int .i64 0, .string ⟨#[]⟩, .int .i64 0, .string ⟨#[]⟩, .int .i64 0, .string ⟨#[]⟩, .int .i64 0, .int .i64 0, .slice none 0 0]) ∧ i0.size = 16 ∧ i0.bytes = 200 := by
    have h9 := i59
    cases hi : Tryd.prog.info? 59 with
    | none => rw [hi] at h9; cases h9
    | some i =>
      rw [hi] at h9
      simp only [Option.map_some, Option.some.injEq, Prod.mk.injEq] at h9
      exact ⟨i, rfl, h9.1, h9.2.1, h9.2.2⟩
  have ba : Below W5.heap.size W5 (W5.alloc (.cells #[v0, v1, v2, v3, v4, v5, v6, v7, v8, v9, v10, v11, v12, v13, v14, v15] 59)) := (Below.refl _ _).alloc (Nat.le_refl _) _
  have s5 := hb5.size
  have h5 := h.on (W' := W5.alloc (.cells #[v0, v1, v2, v3, v4, v5, v6, v7, v8, v9, v10, v11, v12, v13, v14, v15] 59)) (by simp; omega) (fun k a b => (ba.block k (by omega)).trans (hb5.block k b))
  obtain ⟨av, cv, _, hlt⟩ := h.shape
  obtain ⟨css, g1, g2, g3, g4⟩ := h5.ex
  have zc := box16 W5 #[v0, v1, v2, v3, v4, v5, v6, v7, v8, v9, v10, v11, v12, v13, v14, v15] 59
  obtain ⟨v', W7, hr, hown, hgrow, _, hat⟩ := run_append_own_at (P := Tryd.prog) (W5.alloc (.cells #[v0, v1, v2, v3, v4, v5, v6, v7, v8, v9, v10, v11, v12, v13, v14, v15] 59)) L 69 69 59 i0 _ 16 200 Tryd.underlying69 hi0 hz0 hz1 hz2 rfl (by decide) v ps.length css.flatten g3 ⟨W5.heap.size, 0, none⟩ 1 1 [v0, v1, v2, v3, v4, v5, v6, v7, v8, v9, v10, v11, v12, v13, v14, v15] rfl (fun j u hu => by
    have hj : j < 16 := by
      rcases Nat.lt_or_ge j 16 with h9 | h9
      · exact h9
      · rw [List.getElem?_eq_none (by simpa using h9)] at hu; cases hu
    rw [show (⟨W5.heap.size, 0, none⟩ : Addr).add j = ⟨W5.heap.size, j, none⟩ by simp only [Addr.add]; split <;> simp_all]
    exact cellAt zc (by simpa using hu)) h1 (by unfold maxLen; omega) (by omega) (by simp; omega)
  have hat' : ∀ b, v'.ownBlock = some b → v.ownBlock = some b ∨ (W5.alloc (.cells #[v0, v1, v2, v3, v4, v5, v6, v7, v8, v9, v10, v11, v12, v13, v14, v15] 59)).heap.size ≤ b := fun b hb => by
    rcases hat with h9 | h9
    · rw [h9] at hb; exact .inl hb
    · rw [h9] at hb; cases hb; exact .inr (Nat.le_refl _)
  have hsa : (W5.alloc (.cells #[v0, v1, v2, v3, v4, v5, v6, v7, v8, v9, v10, v11, v12, v13, v14, v15] 59)).heap.size = W5.heap.size + 1 := by simp
  refine ⟨v', W7, hr, ⟨⟨css ++ [[v0, v1, v2, v3, v4, v5, v6, v7, v8, v9, v10, v11, v12, v13, v14, v15]], by simp [g1], fun cs hc => ?_, ?_, fun i hi => ?_⟩⟩, hgrow⟩
  · rcases List.mem_append.1 hc with hc | hc
    · exact g2 cs hc
    · rw [List.mem_singleton.1 hc]; rfl
  · rw [List.length_append, List.flatten_append]; simpa using hown
  · rcases Nat.lt_or_ge i ps.length with h9 | h9
    · rw [show ptAt (ps ++ [p]) i = ptAt ps i by simp only [ptAt]; rw [List.getElem?_append_left h9], List.getElem?_append_left (by omega)]
      exact (g4 i h9).step hgrow.size (fun k _ b c => hgrow.block k b c) hat'
    · obtain rfl : i = ps.length := by simp at hi; omega
      rw [show ptAt (ps ++ [p]) ps.length = p by simp [ptAt], List.getElem?_append_right (by omega), g1, Nat.sub_self]
      refine ((hk v.ownBlock (fun b hb => (hlt b hb).2)).low hL).step (by have := hgrow.size; rw [hsa] at this; omega) (fun k _ b c => (hgrow.block k (by rw [hsa]; omega) c).trans (ba.block k b)) (fun b hb => (hat' b hb).imp id (fun h => by rw [hsa] at h; omega))
/-- The row, told as the walks read it. -/
theorem PRow.read {L : Nat} {W : World} {v : Value} {ps : List Pt} (h : PRow L W v ps) : ∃ a c, v = .slice a ps.length c ∧ ∀ w', (∀ k, L ≤ k → k < W.heap.size → w'.heap[k]? = W.heap[k]?) → PtRow W.heap.size w' a ps := by
  obtain ⟨css, h1, h2, h3, h4⟩ := h.ex
  rcases h3.2 with ⟨rfl, h0⟩ | ⟨g, cap, cur, rfl, hb, hh, hrest⟩
  · exact ⟨none, 0, by rw [h0], fun _ _ => .inl (List.eq_nil_of_length_eq_zero h0)⟩
  · have hg := (Array.getElem?_eq_some_iff.1 hh).1
    refine ⟨_, cap, rfl, fun w' hk => .inr ⟨g, rfl, hg, fun i hi => ?_⟩⟩
    have cl : ∀ j, j < 16 → w'.cell? ⟨g, i * 16 + j, none⟩ = (css[i]?.getD [])[j]? := fun j hj => by
      rw [World.cell?_of_block (a := ⟨g, i * 16 + j, none⟩) (hk g hb hg), World.ownsRow.cellAt h3 (i * 16 + j) (by omega), flat16 css h2 i j (by omega) hj]
    have hlen : (css[i]?.getD []).length = 16 := by
      rw [List.getElem?_eq_getElem (by omega)]; exact h2 _ (List.getElem_mem _)
    have hp := h4 i hi w' (fun k a b _ => hk k a b)
    generalize css[i]?.getD [] = cs at *
    match cs, hlen with
    | [v0, v1, v2, v3, v4, v5, v6, v7, v8, v9, v10, v11, v12, v13, v14, v15], _ =>
      exact ⟨v0, v1, v2, v3, v4, v5, v6, v7, v8, v9, v10, v11, v12, v13, v14, v15, hp, cl 0 (by omega), cl 1 (by omega), cl 2 (by omega), cl 3 (by omega), cl 4 (by omega), cl 5 (by omega), cl 6 (by omega), cl 7 (by omega), cl 8 (by omega), cl 9 (by omega), cl 10 (by omega), cl 11 (by omega), cl 12 (by omega), cl 13 (by omega), cl 14 (by omega), cl 15 (by omega)⟩
end Go.Proofs.YtaglbeokecbihaaDoor
