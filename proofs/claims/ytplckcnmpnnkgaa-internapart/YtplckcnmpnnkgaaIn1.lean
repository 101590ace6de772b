/- The symbol table in memory: what its blocks hold, what a call may turn; contracts of New, Len, Find, Text. -/
import Derived.Test.YtplckcnmpnnkgaaRows
import Derived.WalkKit
import Derived.WalkSpells
import Derived.WalkLawsBesides
import Derived.Lib.Hide
import Derived.BigQuiet
import Derived.Deep.QuietTactic
import Derived.Maps.OwnSet
import Derived.Maps.OwnOps
import Derived.Maps.AppendAt
namespace Go.Proofs.Ytplckcnmpnnkgaa
open Go.RowKit Go.Maps
set_option linter.unusedVariables false
set_option linter.unusedSimpArgs false

/-- Only blocks of N, and new ones, may have turned. -/
structure Keeps (N : Nat → Prop) (w w' : World) : Prop where
  os : w'.os = w.os
  tape : w'.tape = w.tape
  output : w'.output = w.output
  size : w.heap.size ≤ w'.heap.size
  block : ∀ k, k < w.heap.size → ¬ N k → w'.heap[k]? = w.heap[k]?

theorem Keeps.refl (N : Nat → Prop) (w : World) : Keeps N w w := ⟨rfl, rfl, rfl, Nat.le_refl _, fun _ _ _ => rfl⟩
theorem Keeps.trans {N : Nat → Prop} {a b c : World} (h : Keeps N a b) (k : Keeps N b c) : Keeps N a c :=
  ⟨k.os.trans h.os, k.tape.trans h.tape, k.output.trans h.output, Nat.le_trans h.size k.size, fun i hi hn => (k.block i (Nat.lt_of_lt_of_le hi h.size) hn).trans (h.block i hi hn)⟩
theorem Keeps.of_grown {N : Nat → Prop} {a b : World} {row : Option Nat} (h : a.grownBy b row) (hr : ∀ k, row = some k → N k) : Keeps N a b :=
  ⟨h.os, h.tape, h.output, h.size, fun k hk hn => h.block k hk (fun e => hn (hr k e.symm))⟩
theorem Keeps.of_below {N : Nat → Prop} {B : Nat} {a b : World} (h : Below B a b) (hN : ∀ k, B ≤ k → N k) : Keeps N a b :=
  ⟨h.os, h.tape, h.output, h.size, fun k hk hn => h.block k (by rcases Nat.lt_or_ge k B with h1 | h1; exact h1; exact absurd (hN k h1) hn)⟩
theorem Keeps.below {N : Nat → Prop} {B : Nat} {a b : World} (h : Keeps N a b) (hB : B ≤ a.heap.size) (hN : ∀ k, N k → B ≤ k) : Below B a b :=
  ⟨h.os, h.tape, h.output, h.size, fun k hk => h.block k (by omega) (fun hn => by have := hN k hn; omega)⟩
theorem Keeps.alloc {N : Nat → Prop} {a b : World} (h : Keeps N a b) (o : Obj) : Keeps N a (b.alloc o) :=
  h.trans (Keeps.of_grown (World.grownBy_alloc b o none) (fun k hk => by cases hk))
theorem Keeps.setCell {N : Nat → Prop} {a b : World} (h : Keeps N a b) {p : Addr} (hp : N p.block) (u : Value) : Keeps N a (b.setCell p u) :=
  h.trans ⟨rfl, rfl, rfl, by simp, fun k hk hn => Below.heap_setCell b p u k (fun e => hn (e ▸ hp))⟩

abbrev key (s : ByteArray) : Lit := .string s.data.toList
theorem key_ne {s t : ByteArray} (h : s ≠ t) : key s ≠ key t := by
  intro e
  apply h
  simp only [key, Lit.string.injEq] at e
  cases s; cases t; simp only [ByteArray.mk.injEq]; exact Array.toList_inj.1 e
theorem law : Keyed Try.prog 9 := string_keyed Try.underlying9
theorem zeroE (w : World) : (zeroValue 2).run Try.prog w = .ok (.int .i64 0) w := by kernel_rfl

/-- The texts' places. -/
def mem : List ByteArray → ByteArray → Bool
  | [], _ => false
  | t :: ts, s => decide (t = s) || mem ts s
def place : List ByteArray → ByteArray → Nat
  | [], _ => 0
  | t :: ts, s => if t = s then 0 else place ts s + 1
def placeOr0 (ts : List ByteArray) (s : ByteArray) : Int := if mem ts s = true then (place ts s : Int) else 0
def placeI (ts : List ByteArray) (s : ByteArray) : Int := if mem ts s = true then (place ts s : Int) else -1

theorem mem_snoc (ts : List ByteArray) (t s : ByteArray) : mem (ts ++ [t]) s = (mem ts s || decide (t = s)) := by
  induction ts with
  | nil => simp [mem]
  | cons x ts ih => simp [mem, ih, Bool.or_assoc]
theorem place_snoc_in {ts : List ByteArray} {t s : ByteArray} (h : mem ts s = true) : place (ts ++ [t]) s = place ts s := by
  induction ts with
  | nil => simp [mem] at h
  | cons x ts ih =>
    simp only [List.cons_append, place]
    by_cases e : x = s
    · simp [e]
    · simp only [mem, e, decide_false, Bool.false_or] at h; simp [e, ih h]
theorem place_snoc_new {ts : List ByteArray} {s : ByteArray} (h : mem ts s = false) : place (ts ++ [s]) s = ts.length := by
  induction ts with
  | nil => simp [place]
  | cons x ts ih =>
    simp only [mem, Bool.or_eq_false_iff, decide_eq_false_iff_not] at h
    simp only [List.cons_append, place, h.1, if_false, ih h.2, List.length_cons]
theorem place_lt {ts : List ByteArray} {s : ByteArray} (h : mem ts s = true) : place ts s < ts.length := by
  induction ts with
  | nil => simp [mem] at h
  | cons x ts ih =>
    simp only [place, List.length_cons]
    by_cases e : x = s
    · simp [e]
    · simp only [mem, e, decide_false, Bool.false_or] at h; simp only [e, if_false]; have := ih h; omega

/-- What stands at a text in the map: its place in ts. -/
def MapReads (D : DataW Unit) (ts : List ByteArray) : Prop :=
  IsMap D ∧ ∀ s : ByteArray, has D (key s) = mem ts s ∧ D.atKey (key s) (.lit (.int .i64 0)) = .lit (.int .i64 (placeOr0 ts s))

theorem mapReads_nil : MapReads (.map []) [] := ⟨isMap_empty, fun s => ⟨by simp [has, mem], by simp [DataW.atKey, placeOr0, mem]⟩⟩
theorem MapReads.put {D : DataW Unit} {ts : List ByteArray} (h : MapReads D ts) {s : ByteArray} (hs : mem ts s = false) : MapReads (D.put (key s) (.lit (.int .i64 ts.length))) (ts ++ [s]) := by
  refine ⟨h.1.put _ _, fun t => ?_⟩
  by_cases e : t = s
  · subst e
    refine ⟨by rw [has_put_same h.1 (show WideAt.IsKeyLit (key t) from True.intro), mem_snoc]; simp, ?_⟩
    rw [atKey_put_same h.1 (show WideAt.IsKeyLit (key t) from True.intro)]
    simp [placeOr0, mem_snoc, place_snoc_new hs]
  · have e' : ¬ s = t := fun h => e h.symm
    refine ⟨by rw [has_put_other (key_ne e), (h.2 t).1, mem_snoc]; simp [e'], ?_⟩
    rw [atKey_put_other (key_ne e), (h.2 t).2]
    unfold placeOr0
    rw [mem_snoc]
    simp only [e', decide_false, Bool.or_false]
    by_cases ht : mem ts t = true
    · rw [if_pos ht, if_pos ht, place_snoc_in ht]
    · rw [if_neg ht, if_neg ht]

/-- The table at block g holds the texts ts; all its blocks are of N. -/
def Tab (N : Nat → Prop) (w : World) (g : Nat) (ts : List ByteArray) : Prop :=
  N g ∧ ∃ mv tv, w.heap[g]? = some (.cells #[mv, tv] 44 (0, 0)) ∧ w.ownsRow 0 9 1 tv ts.length (ts.map Value.string) ∧ (∀ k, tv.ownBlock = some k → N k) ∧
    ((mv = .map none ∧ ts = []) ∨ ∃ b D, mv = .map (some b) ∧ N b ∧ w.ownsMap Try.prog 9 (plainElem Try.prog 2) b ts.length D ∧ MapReads D ts)

theorem Tab.lt {N : Nat → Prop} {w : World} {g : Nat} {ts : List ByteArray} (h : Tab N w g ts) : g < w.heap.size := by
  obtain ⟨_, mv, tv, hg, _⟩ := h; exact (Array.getElem?_eq_some_iff.1 hg).1
/-- The table stays what it is while nothing of its own turns. -/
theorem Tab.keeps {N M : Nat → Prop} {w w' : World} {g : Nat} {ts : List ByteArray} (h : Tab N w g ts) (hk : Keeps M w w') (hd : ∀ k, k < w.heap.size → N k → ¬ M k) : Tab N w' g ts := by
  have hlt := h.lt
  obtain ⟨hN, mv, tv, hg, hrow, hrN, hm⟩ := h
  refine ⟨hN, mv, tv, (hk.block g hlt (hd g hlt hN)).trans hg, ?_, hrN, ?_⟩
  · refine ⟨hrow.1, ?_⟩
    rcases hrow.2 with h0 | ⟨r, cap, cur, rfl, hb, hr, hrest⟩
    · exact .inl h0
    · have hrl := (Array.getElem?_eq_some_iff.1 hr).1
      exact .inr ⟨r, cap, cur, rfl, hb, (hk.block r hrl (hd r hrl (hrN r rfl))).trans hr, hrest⟩
  · rcases hm with h0 | ⟨b, D, rfl, hbN, ⟨es, clock, hb, hrest⟩, hD⟩
    · exact .inl h0
    · have hbl := (Array.getElem?_eq_some_iff.1 hb).1
      exact .inr ⟨b, D, rfl, hbN, ⟨es, clock, (hk.block b hbl (hd b hbl hbN)).trans hb, hrest⟩, hD⟩
/-- A table made in a world stays while only new blocks turn. -/
theorem Tab.below {N : Nat → Prop} {w w' : World} {g : Nat} {ts : List ByteArray} (h : Tab N w g ts) (hb : Below w.heap.size w w') : Tab N w' g ts :=
  h.keeps (Keeps.of_below (N := fun k => w.heap.size ≤ k) hb (fun _ hk => hk)) (fun k hk _ => by omega)
theorem Tab.mono {N M : Nat → Prop} {w : World} {g : Nat} {ts : List ByteArray} (h : Tab N w g ts) (hNM : ∀ k, k < w.heap.size → N k → M k) : Tab M w g ts := by
  have hlt := h.lt
  obtain ⟨hN, mv, tv, hg, hrow, hrN, hm⟩ := h
  refine ⟨hNM g hlt hN, mv, tv, hg, hrow, fun k hk => hNM k (hrow.lt k hk).2 (hrN k hk), ?_⟩
  rcases hm with h0 | ⟨b, D, rfl, hbN, hown, hD⟩
  · exact .inl h0
  · exact .inr ⟨b, D, rfl, hNM b hown.lt hbN, hown, hD⟩

/-- intern.New: an empty table in a new block. -/
theorem new_calls (w : World) : Calls Try.prog 9 #[] w fun e w' => e = .returned (.pointer (some ⟨w.heap.size, 0, none⟩)) ∧ w' = w.alloc (.cells #[.map none, .slice none 0 0] 44) := by
  go_enter Try.func9, Try.ntmps9
  go_wp2_with fail
  go_ret
  exact ⟨rfl, rfl⟩
theorem tab_new (w : World) (N : Nat → Prop) (hN : N w.heap.size) : Tab N (w.alloc (.cells #[.map none, .slice none 0 0] 44)) w.heap.size [] :=
  ⟨hN, .map none, .slice none 0 0, heap_alloc_new w _, World.ownsRow_nil _ _ _ _, (fun k hk => by simp [Value.ownBlock] at hk), .inl ⟨rfl, rfl⟩⟩

theorem len_calls {N : Nat → Prop} {w : World} {g : Nat} {ts : List ByteArray} (h : Tab N w g ts) : Calls Try.prog 14 #[.pointer (some ⟨g, 0, none⟩)] w fun e w' => e = .returned (.int .i64 ts.length) ∧ w = w' := by
  obtain ⟨hN, mv, tv, hg, hrow, hrN, hm⟩ := h
  have c1 : w.cell? ⟨g, 1, none⟩ = some tv := by rw [cell_of_row w g 1 _ 44 (0, 0) hg]; rfl
  obtain ⟨a, cap, rfl⟩ : ∃ a cap, tv = .slice a ts.length cap := by
    rcases hrow.2 with ⟨rfl, h0⟩ | ⟨r, cap, cur, rfl, _⟩
    · rw [h0]; exact ⟨_, _, rfl⟩
    · exact ⟨_, _, rfl⟩
  clear hg hrow hrN hm
  go_enter Try.func14, Try.ntmps14
  go_wp2_with fail
  go_ret
  exact ⟨rfl, rfl⟩

theorem ret_find {a b : Int} {x y : Bool} (h : a = b) (hx : x = y) : Ending.returned (.tuple #[.int .i64 a, .bool x]) = .returned (.tuple #[.int .i64 b, .bool y]) := by rw [h, hx]
theorem lit_inj {a b : Int} (h : (DataW.lit (Lit.int .i64 a) : DataW Unit) = .lit (.int .i64 b)) : a = b := by simpa using h

set_option maxHeartbeats 400000 in
theorem find_calls {N : Nat → Prop} {w : World} {g : Nat} {ts : List ByteArray} (h : Tab N w g ts) (s : ByteArray) (hs : s.size ≤ maxLen) :
    Calls Try.prog 13 #[.pointer (some ⟨g, 0, none⟩), .string s] w fun e w' => e = .returned (.tuple #[.int .i64 (placeOr0 ts s), .bool (mem ts s)]) ∧ w = w' := by
  obtain ⟨hN, mv, tv, hg, hrow, hrN, hm⟩ := h
  have c0 : w.cell? ⟨g, 0, none⟩ = some mv := by rw [cell_of_row w g 0 _ 44 (0, 0) hg]; rfl
  have hkey : keyOf Try.prog 9 (.string s) = some (key s) := WideMaps.keyOf_string_mk Try.underlying9 hs
  have HK := Lib.hid hkey
  clear hrow hrN hg hkey
  rcases hm with ⟨rfl, rfl⟩ | ⟨b, D, rfl, hbN, hown, hD⟩
  · have hrun := Maps.look_nil (w := w) true law Try.underlying42 (zeroE w) HK.out
    go_enter Try.func13, Try.ntmps13
    go_wp2_with fail
    go_ret2
    exact ⟨ret_find (by simp [placeOr0, mem]) (by simp [mem]), rfl⟩
  · have HD := Lib.hid (hD.2 s)
    clear hD
    go_enter Try.func13, Try.ntmps13
    go_wp2_with (first | (at_lookup; refine wpList_lookup_own_ok_int _ rfl _ _ 42 rfl 9 2 .i64 law Try.underlying42 Try.underlying2 (zeroE _) b ts.length D rfl hown _ _ rfl HK.out ?_; intro c hat hwc; have HA := Lib.hid hat; clear hat hwc))
    go_ret2
    exact ⟨ret_find (lit_inj (HA.out.symm.trans HD.out.2)) HD.out.1, rfl⟩

def TextRet (ts : List ByteArray) (id : Int) (w : World) (e : Ending) (w' : World) : Prop :=
  w = w' ∧ ((0 ≤ id ∧ id < ts.length ∧ e = .returned (.tuple #[.string (ts.getD id.toNat ByteArray.empty), .bool true])) ∨ (¬ (0 ≤ id ∧ id < ts.length) ∧ e = .returned (.tuple #[.string ⟨#[]⟩, .bool false])))

set_option maxHeartbeats 400000 in
theorem text_calls {N : Nat → Prop} {w : World} {g : Nat} {ts : List ByteArray} (h : Tab N w g ts) (id : Int) (hl : ts.length ≤ 1000000) :
    Calls Try.prog 15 #[.pointer (some ⟨g, 0, none⟩), .int .i64 id] w (TextRet ts id w) := by
  obtain ⟨hN, mv, tv, hg, hrow, hrN, hm⟩ := h
  have c1 : w.cell? ⟨g, 1, none⟩ = some tv := by rw [cell_of_row w g 1 _ 44 (0, 0) hg]; rfl
  clear hg hrN hm
  by_cases h0 : id < 0
  · have t0 : decide (id < 0) = true := by simpa using h0
    clear hrow
    go_enter Try.func15, Try.ntmps15
    go_wp2_with fail
    go_ret2
    exact ⟨rfl, .inr ⟨by omega, rfl⟩⟩
  · have t0 : decide (id < 0) = false := by simpa using h0
    obtain ⟨j, rfl⟩ : ∃ j : Nat, id = (j : Int) := ⟨id.toNat, by omega⟩
    by_cases h1 : j < ts.length
    · rcases hrow.2 with ⟨rfl, h9⟩ | ⟨r, cap, cur, rfl, hb, hr, hn, hcm, hcs, htake⟩
      · omega
      · have d1 : w.cell? ⟨r, j, none⟩ = some (.string (ts.getD j ByteArray.empty)) := by
          rw [cell_of_row w r j cur 9 (0, 0) hr]
          have e1 : (cur.toList.take (ts.length * 1))[j]? = some (.string (ts.getD j ByteArray.empty)) := by rw [htake]; simp [h1]
          rw [List.getElem?_take_of_lt (by omega)] at e1
          simpa using e1
        have HR := Lib.hid hrow
        have t1 : decide (ts.length ≤ j) = false := by simp; omega
        clear hrow hr hcs htake
        obtain ⟨s, hsE⟩ : ∃ s, ts.getD j ByteArray.empty = s := ⟨_, rfl⟩
        rw [hsE] at d1
        have HS := Lib.hid hsE
        clear hsE
        go_enter Try.func15, Try.ntmps15
        go_wp2_with fail
        go_ret2
        exact ⟨rfl, .inl ⟨by omega, by omega, by rw [Int.toNat_natCast, HS.out]; rfl⟩⟩
    · obtain ⟨a, cap, rfl⟩ : ∃ a cap, tv = .slice a ts.length cap := by
        rcases hrow.2 with ⟨rfl, h0⟩ | ⟨r, cap, cur, rfl, _⟩
        · rw [h0]; exact ⟨_, _, rfl⟩
        · exact ⟨_, _, rfl⟩
      have t1 : decide (ts.length ≤ j) = true := by simp; omega
      clear hrow
      go_enter Try.func15, Try.ntmps15
      go_wp2_with fail
      go_ret2
      exact ⟨rfl, .inr ⟨by omega, rfl⟩⟩
end Go.Proofs.Ytplckcnmpnnkgaa
