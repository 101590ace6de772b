import Derived.Test.YtepkmhcchmladaaRv
import Derived.Laws.BytesArg
import Derived.Lib.BufferRead
import Derived.Maps.OwnSet
import Derived.Maps.OwnOps
import Derived.Maps.AppendAt
/- best's bytesOf: eight bytes of each number. -/
namespace Go.Proofs.Ytepkmhcchmladaa
open Go.RowKit
set_option linter.unusedVariables false
set_option linter.unusedSimpArgs false

theorem info5 : (Try.prog.info? 5).map (fun i => (i.zero, i.size, i.bytes)) = some (some (.int .u8 0), 1, 1) := by kernel_rfl
def byteAt (x : Int) (j : Nat) : Int := x / 2 ^ (8 * j) % 256
def bytesX (x : Int) (j : Nat) : List Int := (List.range j).map (byteAt x)
def bytesK (key : List Int) : List Int := key.flatMap fun x => bytesX x 8
theorem bytesX_succ (x : Int) (j : Nat) : bytesX x (j + 1) = bytesX x j ++ [byteAt x j] := by simp [bytesX, List.range_succ]
theorem bytesK_take {key : List Int} {i : Nat} (h : i < key.length) : bytesK (key.take (i + 1)) = bytesK (key.take i) ++ bytesX (key[i]?.getD 0) 8 := by
  unfold bytesK
  rw [List.take_succ_eq_append_getElem h, List.flatMap_append, List.getElem?_eq_getElem h]; simp
theorem bytesK_len (key : List Int) : (bytesK key).length = 8 * key.length := by
  induction key with
  | nil => rfl
  | cons x key ih =>
    have : bytesK (x :: key) = bytesX x 8 ++ bytesK key := by simp [bytesK]
    rw [this, List.length_append, ih]; simp [bytesX]; omega
theorem bytesX_len (x : Int) (j : Nat) : (bytesX x j).length = j := by simp [bytesX]
/-- What an appended byte leaves. -/
theorem app_byte {w wr w1 : World} {B : Nat} {v v' : Value} {xs : List Int} {y : Int} (hB : B ≤ wr.heap.size) (hbel : Below B w wr) (hown : wr.ownsRow B 5 1 v xs.length (xs.map (Value.int .u8)))
    (hown' : w1.ownsRow B 5 1 v' (xs.length + 1) (xs.map (Value.int .u8) ++ [.int .u8 y])) (hgrow : (wr.alloc (.cells #[.int .u8 y] 5)).grownBy w1 v.ownBlock) :
    w1.ownsRow B 5 1 v' (xs ++ [y]).length ((xs ++ [y]).map (Value.int .u8)) ∧ Below B w w1 := by
  refine ⟨by rw [List.length_append, List.map_append]; exact hown', ?_⟩
  exact (hbel.alloc hB _).grown hgrow (by simp; omega) (fun k hk => (hown.lt k hk).1)
def BytesRet (w : World) (key : List Int) (e : Ending) (w' : World) : Prop := e = .returned (.string (strOfNums (bytesK key))) ∧ Below w.heap.size w w'
theorem conv_bytes {w : World} {B n : Nat} {v : Value} {xs : List Int} (h : w.ownsRow B 5 1 v xs.length (xs.map (Value.int .u8))) : (convert 124 9 v).run Try.prog w = .ok (.string (strOfNums xs)) w := by
  rcases h.2 with ⟨rfl, h0⟩ | ⟨g, cap, cur, rfl, _⟩
  · have e : xs = [] := List.eq_nil_of_length_eq_zero h0
    subst e
    exact Lib.run_convert_nil_bytes w 124 9 5 0 Try.underlying124 Try.underlying5 Try.underlying9
  · refine run_convert_bytes_arg (P := Try.prog) (w := w) 124 5 Try.underlying124 Try.underlying5 g 0 xs.length cap xs rfl (fun i hi => ?_) 9 Try.underlying9
    rw [Nat.zero_add, World.ownsRow.cellAt h i (by omega), List.getElem?_map, List.getElem?_eq_getElem hi, List.getD_eq_getElem?_getD, List.getElem?_eq_getElem hi]; rfl
set_option maxRecDepth 100000 in
set_option maxHeartbeats 2000000 in
theorem bytesOf_calls (a : Option Addr) (ca : Nat) (key : List Int) (w : World) (hk : Row w a key) (hl : key.length ≤ 1000) : Calls Try.prog 74 #[.slice a key.length ca] w (BytesRet w key) := by
  obtain ⟨i0, hi0, hz0, hz1, hz2⟩ := info_parts info5
  have I := Lib.hid hi0
  have Z0 := Lib.hid hz0
  have Z1 := Lib.hid hz1
  have Z2 := Lib.hid hz2
  obtain ⟨B, hB⟩ : ∃ B, w.heap.size = B := ⟨_, rfl⟩
  have HB := Lib.hid hB
  have HK := Lib.hid hk
  clear hi0 hz0 hz1 hz2 hB hk
  go_enter Try.func74, Try.ntmps74
  go_wp2_with (first | (refine wpList_make_own _ rfl _ _ 124 rfl B 5 i0 (.int .u8 0) 1 Try.underlying124 I.out Z0.out Z1.out .i64 .i64 _ (8 * key.length) rfl rfl ?m0 ?m1 ?m2 ?m3 ?_))
  case m0 => first | rfl | (simp; omega) | omega
  case m1 => rw [Z2.out]; omega
  case m2 => unfold maxLen; omega
  case m3 => rw [HB.out]; omega
  intro w1 hown hgrow
  have O1 := Lib.hid hown
  have B1 := Lib.hid ((Below.refl B w).grown hgrow (by rw [HB.out]; omega) (fun k e => by cases e))
  rw [HB.out] at O1 ⊢
  clear hown hgrow
  go_wp2_with fail
  go_loopw [13, 3] (fun s v wr => ∃ (i : Nat) (u : Value), i ≤ key.length ∧ s = .int .i64 i ∧ u = v ∧ Hid (wr.ownsRow B 5 1 u (bytesK (key.take i)).length ((bytesK (key.take i)).map (Value.int .u8))) ∧ Hid (Below B w wr)) (fun s _ _ => key.length - (intOf s).toNat)
  case atStart => exact ⟨0, _, Nat.zero_le _, rfl, rfl, Lib.hid (by simpa [bytesK] using O1.out), B1⟩
  case round =>
    obtain ⟨i, u, hi, rfl, rfl, HO, HL⟩ := hrel
    obtain ⟨X, rfl⟩ : ∃ x, x = wr := ⟨wr, rfl⟩
    by_cases hlt : i < key.length
    · obtain ⟨kb, ko, rfl, _, hkc⟩ := (HK.out.belowB HB.out HL.out).at hlt
      have ST := Lib.hid (bytesK_take hlt)
      have hbl : (bytesK (key.take i)).length ≤ 8000 := by rw [bytesK_len, List.length_take]; omega
      generalize key[i]?.getD 0 = x at *
      generalize bytesK (key.take i) = P0 at *
      go_wp2_with fail
      go_loopw [6, 3] (fun s v wr => ∃ (j : Nat) (u2 : Value), j ≤ 8 ∧ s = .int .i64 (8 * (j : Int)) ∧ u2 = v ∧ Hid (wr.ownsRow B 5 1 u2 (P0 ++ bytesX x j).length ((P0 ++ bytesX x j).map (Value.int .u8))) ∧ Hid (Below B w wr)) (fun s _ _ => 64 - (intOf s).toNat)
      case atStart => exact ⟨0, _, Nat.zero_le _, rfl, rfl, Lib.hid (by simpa [bytesX] using HO.out), HL⟩
      case round =>
        obtain ⟨j, u2, hj, rfl, rfl, HO2, HL2⟩ := hrel
        obtain ⟨Y, rfl⟩ : ∃ x, x = wr := ⟨wr, rfl⟩
        have hBY : B ≤ Y.heap.size := by have := HL2.out.size; rw [HB.out] at this; exact this
        by_cases hj8 : j < 8
        · have hql : (P0 ++ bytesX x j).length ≤ 8100 := by rw [List.length_append, bytesX_len]; omega
          have SS : Hid (P0 ++ bytesX x (j + 1) = (P0 ++ bytesX x j) ++ [byteAt x j]) := Lib.hid (by rw [bytesX_succ, List.append_assoc])
          have tj : decide (8 * (j : Int) < 64) = true := decide_eq_true (by omega)
          generalize P0 ++ bytesX x j = P1 at *
          go_wp2_with (first | (at_builtin; refine wpList_append_own _ rfl _ _ 124 rfl B 5 i0 (.int .u8 0) 1 1 Try.underlying124 I.out Z0.out Z1.out Z2.out rfl (by decide) _ _ _ rfl (HO2.out.alloc _) ⟨Y.heap.size, 0, none⟩ 1 1 [.int .u8 (x / 2 ^ (8 * j) % 256)] rfl rfl ?c1 ?c2 ?c3 ?c4 ?c5 ?_))
          case c1 => exact cell_one_new Y _ _
          case c2 => intro u hu; simp at hu; subst hu; rfl
          case c3 => unfold maxLen; omega
          case c4 => omega
          case c5 => simp; omega
          intro v' w2 hown' hgrow _
          have R := app_byte hBY HL2.out HO2.out hown' hgrow
          have O2 := Lib.hid R.1
          have B2 := Lib.hid R.2
          rw [show x / 2 ^ (8 * j) % 256 = byteAt x j from rfl, ← SS.out] at O2
          clear hown' hgrow R
          go_wp2_with fail
          go_roundw
          case rel => exact ⟨j + 1, _, by omega, by go_num, rfl, O2, B2⟩
          case measure => simp [intOf]; omega
        · obtain rfl : j = 8 := by omega
          have O6 : Hid (Y.ownsRow B 5 1 u2 (bytesK (key.take (i + 1))).length ((bytesK (key.take (i + 1))).map (Value.int .u8))) := Lib.hid (by rw [ST.out]; exact HO2.out)
          go_wp2_with fail
          go_roundw
          case rel => exact ⟨i + 1, u2, by omega, by go_num, rfl, O6, HL2⟩
          case measure => simp [intOf]; omega
    · have tl : decide (i < key.length) = false := decide_eq_false hlt
      have hfin : X.ownsRow B 5 1 u (bytesK key).length ((bytesK key).map (Value.int .u8)) := by
        have := HO.out
        rw [List.take_of_length_le (by omega)] at this
        exact this
      have cv := conv_bytes (n := 0) hfin
      clear hfin
      go_wp2_with fail
      go_ret
      exact ⟨rfl, by rw [HB.out]; exact HL.out⟩
end Go.Proofs.Ytepkmhcchmladaa

/- Keys with the same bytes are the same. -/
namespace Go.Proofs.Ytepkmhcchmladaa
open Go.RowKit
set_option linter.unusedVariables false
set_option linter.unusedSimpArgs false

theorem byteAt_range (x : Int) (j : Nat) : 0 ≤ byteAt x j ∧ byteAt x j < 256 := by unfold byteAt; omega
theorem bytesK_range {key : List Int} {z : Int} (h : z ∈ bytesK key) : 0 ≤ z ∧ z < 256 := by
  simp only [bytesK, bytesX, List.mem_flatMap, List.mem_map] at h
  obtain ⟨x, _, j, _, rfl⟩ := h
  exact byteAt_range x j
theorem strOfNums_inj : ∀ {xs ys : List Int}, (∀ z ∈ xs, 0 ≤ z ∧ z < 256) → (∀ z ∈ ys, 0 ≤ z ∧ z < 256) → strOfNums xs = strOfNums ys → xs = ys := by
  intro xs ys hx hy h
  have h1 : xs.map (fun n => UInt8.ofNat n.toNat) = ys.map (fun n => UInt8.ofNat n.toNat) := by
    rw [← strOfNums_data, ← strOfNums_data, h]
  clear h
  induction xs generalizing ys with
  | nil => cases ys with
    | nil => rfl
    | cons y ys => simp at h1
  | cons x xs ih =>
    cases ys with
    | nil => simp at h1
    | cons y ys =>
      simp only [List.map_cons, List.cons.injEq] at h1
      have hx0 := hx x (List.mem_cons_self ..)
      have hy0 := hy y (List.mem_cons_self ..)
      have e : x.toNat = y.toNat := by
        have := congrArg UInt8.toNat h1.1
        simp at this
        omega
      rw [ih (fun z hz => hx z (List.mem_cons_of_mem _ hz)) (fun z hz => hy z (List.mem_cons_of_mem _ hz)) h1.2, show x = y by omega]
theorem byte_step {x y : Int} (h0 : x % 256 = y % 256) (h1 : x / 256 = y / 256) : x = y := by omega
theorem byte_div (x : Int) (j : Nat) : x / 2 ^ (8 * (j + 1)) = (x / 256) / 2 ^ (8 * j) := by
  rw [show (2 : Int) ^ (8 * (j + 1)) = 256 * 2 ^ (8 * j) by rw [show 8 * (j + 1) = 8 + 8 * j by omega, Int.pow_add]; rfl]
  exact (Int.ediv_ediv_of_nonneg (by decide)).symm
theorem byteAt_div (x : Int) (j : Nat) : byteAt x (j + 1) = byteAt (x / 256) j := by unfold byteAt; rw [byte_div]
/-- The bytes tell a number of that many bytes. -/
theorem bytes_num : ∀ (n : Nat) (x y : Int), (∀ j, j < n → byteAt x j = byteAt y j) → x / 2 ^ (8 * n) = y / 2 ^ (8 * n) → x = y
  | 0, x, y, _, h => by simpa using h
  | n + 1, x, y, hb, h => by
    have h1 := bytes_num n (x / 256) (y / 256) (fun j hj => by rw [← byteAt_div, ← byteAt_div]; exact hb (j + 1) (by omega)) (by rw [← byte_div, ← byte_div]; exact h)
    have h0 := hb 0 (by omega)
    simp [byteAt] at h0
    exact byte_step h0 h1
theorem bytes_top {x : Int} (h : -9223372036854775808 ≤ x ∧ x ≤ 9223372036854775807) : x / 2 ^ (8 * 8) = if x < 0 then -1 else 0 := by
  rw [show (2 : Int) ^ (8 * 8) = 18446744073709551616 by decide]
  split <;> omega
theorem bytesX_inj {x y : Int} (hx : -9223372036854775808 ≤ x ∧ x ≤ 9223372036854775807) (hy : -9223372036854775808 ≤ y ∧ y ≤ 9223372036854775807) (h : bytesX x 8 = bytesX y 8) : x = y := by
  have hb : ∀ j, j < 8 → byteAt x j = byteAt y j := fun j hj => by
    have := congrArg (fun l => l[j]?) h
    simpa [bytesX, hj] using this
  have h7 := hb 7 (by omega)
  have e7 : ∀ z : Int, byteAt z 7 = z / 72057594037927936 % 256 := fun z => by unfold byteAt; rw [show (2 : Int) ^ (8 * 7) = 72057594037927936 by decide]
  rw [e7, e7] at h7
  refine bytes_num 8 x y hb ?_
  rw [bytes_top hx, bytes_top hy]
  by_cases h1 : x < 0
  · rw [if_pos h1, if_pos (by omega)]
  · rw [if_neg h1, if_neg (by omega)]
def InRange (key : List Int) : Prop := ∀ x ∈ key, -9223372036854775808 ≤ x ∧ x ≤ 9223372036854775807
theorem bytesK_inj : ∀ {k1 k2 : List Int}, InRange k1 → InRange k2 → bytesK k1 = bytesK k2 → k1 = k2
  | [], [], _, _, _ => rfl
  | [], y :: k2, _, _, h => by have := congrArg List.length h; rw [bytesK_len, bytesK_len] at this; simp at this
  | x :: k1, [], _, _, h => by have := congrArg List.length h; rw [bytesK_len, bytesK_len] at this; simp at this
  | x :: k1, y :: k2, h1, h2, h => by
    have e1 : bytesK (x :: k1) = bytesX x 8 ++ bytesK k1 := by simp [bytesK]
    have e2 : bytesK (y :: k2) = bytesX y 8 ++ bytesK k2 := by simp [bytesK]
    rw [e1, e2] at h
    have h3 := List.append_inj h (by rw [bytesX_len, bytesX_len])
    rw [bytesX_inj (h1 x (List.mem_cons_self ..)) (h2 y (List.mem_cons_self ..)) h3.1, bytesK_inj (fun z hz => h1 z (List.mem_cons_of_mem _ hz)) (fun z hz => h2 z (List.mem_cons_of_mem _ hz)) h3.2]
/-- The text of a key. -/
def keyText (key : List Int) : ByteArray := strOfNums (bytesK key)
theorem keyText_inj {k1 k2 : List Int} (h1 : InRange k1) (h2 : InRange k2) (h : keyText k1 = keyText k2) : k1 = k2 :=
  bytesK_inj h1 h2 (strOfNums_inj (fun z hz => bytesK_range hz) (fun z hz => bytesK_range hz) h)
end Go.Proofs.Ytepkmhcchmladaa

/- Sets of texts in memory: a map from texts to nothing. -/
namespace Go.Proofs.Ytepkmhcchmladaa
open Go.RowKit Go.Maps
set_option linter.unusedVariables false
set_option linter.unusedSimpArgs false

abbrev key (s : ByteArray) : Lit := .string s.data.toList
theorem key_ne {s t : ByteArray} (h : s ≠ t) : key s ≠ key t := by
  intro e
  apply h
  simp only [key, Lit.string.injEq] at e
  cases s; cases t; simp only [ByteArray.mk.injEq]; exact Array.toList_inj.1 e
theorem law : Keyed Try.prog 9 := string_keyed Try.underlying9
theorem zeroU (w : World) : (zeroValue 103).run Try.prog w = .ok (.agg #[]) w := by kernel_rfl

/-- The texts' places. -/
def mem : List ByteArray → ByteArray → Bool
  | [], _ => false
  | t :: ts, s => decide (t = s) || mem ts s
theorem mem_snoc (ts : List ByteArray) (t s : ByteArray) : mem (ts ++ [t]) s = (mem ts s || decide (t = s)) := by
  induction ts with
  | nil => simp [mem]
  | cons x ts ih => simp [mem, ih, Bool.or_assoc]
/-- What is in the map: the texts ts. -/
def MapHas (D : DataW Unit) (ts : List ByteArray) : Prop := IsMap D ∧ ∀ s : ByteArray, has D (key s) = mem ts s
theorem mapHas_nil : MapHas (.map []) [] := ⟨isMap_empty, fun s => by simp [has, mem]⟩
theorem MapHas.put {D : DataW Unit} {ts : List ByteArray} (h : MapHas D ts) (s : ByteArray) : MapHas (D.put (key s) (.agg [])) (ts ++ [s]) := by
  refine ⟨h.1.put _ _, fun t => ?_⟩
  by_cases e : t = s
  · subst e
    rw [has_put_same h.1 (show WideAt.IsKeyLit (key t) from True.intro), mem_snoc]; simp
  · have e' : ¬ s = t := fun h => e h.symm
    rw [has_put_other (key_ne e), h.2 t, mem_snoc]; simp [e']
theorem mem_iff (ts : List ByteArray) (s : ByteArray) : mem ts s = true ↔ s ∈ ts := by
  induction ts with
  | nil => simp [mem]
  | cons x ts ih =>
    rw [mem, Bool.or_eq_true, decide_eq_true_iff, ih, List.mem_cons]
    exact ⟨fun h => h.imp (fun h => h.symm) id, fun h => h.imp (fun h => h.symm) id⟩
/-- A row among rows, by their texts. -/
theorem mem_rows {K : List (List Int)} {r : List Int} (hK : ∀ x ∈ K, InRange x) (hr : InRange r) : mem (K.map keyText) (keyText r) = decide (r ∈ K) := by
  by_cases h : r ∈ K
  · rw [decide_eq_true h, mem_iff]; exact List.mem_map_of_mem h
  · rw [decide_eq_false h]
    cases hm : mem (K.map keyText) (keyText r) with
    | false => rfl
    | true =>
      obtain ⟨x, hx, e⟩ := List.mem_map.1 ((mem_iff _ _).1 hm)
      exact absurd (keyText_inj (hK x hx) hr e ▸ hx) h
theorem keyText_size {k : List Int} (h : k.length ≤ 1000) : (keyText k).size ≤ maxLen := by
  unfold keyText
  have : (strOfNums (bytesK k)).size = (bytesK k).length := by
    have := congrArg List.length (strOfNums_data (bytesK k))
    simpa using this
  rw [this, bytesK_len]; unfold maxLen; omega
theorem own_ne_cells {w : World} {base : Nat} {t t' : TypeId} {k n : Nat} {v : Value} {xs : List Value} (h : w.ownsRow base t k v n xs) {g : Nat} {cs : Array Value} {fr : Nat × Nat} (hg : w.heap[g]? = some (.cells cs t' fr)) (ht : t ≠ t') : v.ownBlock ≠ some g := by
  intro e
  rcases h.2 with ⟨rfl, _⟩ | ⟨r, cap, cur, rfl, _, hr, _⟩
  · simp [Value.ownBlock] at e
  · simp only [Value.ownBlock, Option.some.injEq] at e
    subst e
    rw [hg] at hr
    simp only [Option.some.injEq, Obj.cells.injEq] at hr
    exact ht hr.2.1.symm
theorem own_ne_map {w : World} {base : Nat} {t : TypeId} {k n m : Nat} {v : Value} {xs : List Value} {R : Value → Option (DataW Unit × List MemPlace)} {D : DataW Unit} (h : w.ownsRow base t k v n xs) {b : Nat} {kt : TypeId} (hb : w.ownsMap Try.prog kt R b m D) : v.ownBlock ≠ some b := by
  intro e
  obtain ⟨es, cl, hb, _⟩ := hb
  rcases h.2 with ⟨rfl, _⟩ | ⟨r, cap, cur, rfl, _, hr, _⟩
  · simp [Value.ownBlock] at e
  · simp only [Value.ownBlock, Option.some.injEq] at e
    subst e; rw [hb] at hr; simp at hr
theorem cells_ne_map {w : World} {m g b : Nat} {cs : Array Value} {t : TypeId} {fr : Nat × Nat} {R : Value → Option (DataW Unit × List MemPlace)} {D : DataW Unit} {kt : TypeId} (hg : w.heap[g]? = some (.cells cs t fr)) (hb : w.ownsMap Try.prog kt R b m D) : g ≠ b := by
  intro e
  obtain ⟨es, cl, hb, _⟩ := hb
  subst e; rw [hg] at hb; simp at hb
theorem own_ne_own {w : World} {B B' : Nat} {t t' : TypeId} {k k' n n' : Nat} {v v' : Value} {xs xs' : List Value} (h : w.ownsRow B t k v n xs) (h' : w.ownsRow B' t' k' v' n' xs') (ht : t ≠ t') : ∀ b, v.ownBlock = some b → v'.ownBlock ≠ some b := by
  intro b e
  rcases h.2 with ⟨rfl, _⟩ | ⟨r, cap, cur, rfl, _, hr, _⟩
  · simp [Value.ownBlock] at e
  · simp only [Value.ownBlock, Option.some.injEq] at e
    subst e
    exact own_ne_cells h' hr (Ne.symm ht)
theorem map_keeps {N : Nat → Prop} {w w' : World} {kt : TypeId} {R : Value → Option (DataW Unit × List MemPlace)} {b n : Nat} {D : DataW Unit} (h : w.ownsMap Try.prog kt R b n D) (hk : Keeps N w w') (hb : ¬ N b) : w'.ownsMap Try.prog kt R b n D := by
  obtain ⟨es, clock, h1, hrest⟩ := h
  exact ⟨es, clock, (hk.block b (Array.getElem?_eq_some_iff.1 h1).1 hb).trans h1, hrest⟩

end Go.Proofs.Ytepkmhcchmladaa
