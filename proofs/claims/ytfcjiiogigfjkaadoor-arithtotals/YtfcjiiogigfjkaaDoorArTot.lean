/- The statement ArithTotals, walked. -/
import Derived.Test.YtfcjiiogigfjkaaDoorArTotMath
namespace Go.Proofs.YtfcjiiogigfjkaaDoor
open Go.RowKit
set_option linter.unusedVariables false

theorem info2 : (Tryd.prog.info? 2).map (fun i => (i.zero, i.size, i.bytes)) = some (some (.int .i64 0), 1, 8) := by kernel_rfl

/-- A row of the call's own that holds the integers zs reads as zs. -/
theorem reads_of_owns {w : World} {base : Nat} {v : Value} {zs : List Int} (h : w.ownsRow base 2 1 v zs.length (zs.map (Value.int .i64))) : Reads w v zs := by
  obtain ⟨hl, h | ⟨g, cap, cur, rfl, hb, hh, hn, hm, hcs, ht⟩⟩ := h
  · left
    exact ⟨List.eq_nil_of_length_eq_zero h.2, none, 0, h.1⟩
  · right
    refine ⟨g, 0, cap, rfl, fun i hi => ?_⟩
    have hx : cur[i]? = some (.int .i64 (zs[i]?.getD 0)) := by
      have e1 : (cur.toList.take (zs.length * 1))[i]? = some (.int .i64 (zs[i]?.getD 0)) := by rw [ht]; simp [hi]
      rw [List.getElem?_take_of_lt (by omega)] at e1
      simpa using e1
    simp [World.cell?, hh, hx]

theorem rel_step {w wr w1 : World} {B : Nat} {v v' : Value} {zs : List Int} {m k : Nat} {y : Value} (hk : k < zs.length) (hB : B ≤ wr.heap.size) (hy : y = .int .i64 (zs[(k + m) % zs.length]?.getD 0))
    (hbel : Below B w wr) (hown : wr.ownsRow B 2 1 v k ((turned zs m k).map (Value.int .i64)))
    (hown' : w1.ownsRow B 2 1 v' (k + 1) ((turned zs m k).map (Value.int .i64) ++ [y])) (hgrow : (wr.alloc (.cells #[y] 2)).grownBy w1 v.ownBlock) :
    w1.ownsRow B 2 1 v' (k + 1) ((turned zs m (k + 1)).map (Value.int .i64)) ∧ Below B w w1 := by
  refine ⟨by rw [turned_succ, List.map_append]; subst hy; exact hown', ?_⟩
  exact ((hbel.alloc hB _).grown hgrow (by simp; omega) (fun k hk => (hown.lt k hk).1))

set_option maxRecDepth 100000 in
set_option maxHeartbeats 1000000 in
theorem totals_some (b off cap : Nat) (zs : List Int) (at' : Int) (w : World) (hs : Signs w) (hc : ∀ i, i < zs.length → w.cell? ⟨b, off + i, none⟩ = some (.int .i64 (zs[i]?.getD 0)))
    (hlen : zs.length ≤ 1000) (hpos : 1 ≤ zs.length) (hz : ∀ z ∈ zs, -9223372036854775808 ≤ z ∧ z ≤ 9223372036854775807) (hb : b < w.heap.size) :
    Calls Tryd.prog 11 #[.slice (some ⟨b, off, none⟩) zs.length cap, .int .i64 at'] w fun e w' => e = .returned (.bool true) ∧ Below w.heap.size w w' := by
  obtain ⟨i0, hi, hz0, hz1, hz2⟩ := info_parts info2
  have I := Lib.hid hi
  have Z0 := Lib.hid hz0
  have Z1 := Lib.hid hz1
  have Z2 := Lib.hid hz2
  clear hi hz0 hz1 hz2
  have h1000 : decide (1000 < zs.length) = false := by simp; omega
  obtain ⟨m, hm⟩ : ∃ m : Nat, at' % 65536 = (m : Int) := ⟨(at' % 65536).toNat, by omega⟩
  have hm1 : m ≤ 65535 := by omega
  have hmask : bits .and .i64 at' 65535 = (m : Int) := by rw [mask16]; exact hm
  clear hm
  generalize hB : w.heap.size = B at *
  have HB := Lib.hid hB
  clear hB
  go_enter Tryd.func11, Tryd.ntmps11
  go_wp2_with (first | (go_at_call 28; refine (head_calls _ hs).mono ?_; rintro e w' ⟨rfl, rfl⟩))
  go_loopw [5, 6, 7, 28] (fun h l v i wr => ∃ k : Nat, k ≤ zs.length ∧ i = .int .i64 k ∧ h = .int .i64 (hi32 (zs.take k)) ∧ l = .int .i64 (lo32 (zs.take k)) ∧ wr.ownsRow B 2 1 v k ((turned zs m k).map (Value.int .i64)) ∧ Below B w wr)
    (fun _ _ _ i _ => zs.length - (intOf i).toNat)
  case atStart => exact ⟨0, Nat.zero_le _, rfl, rfl, rfl, World.ownsRow_made w #[] 0 (Nat.le_of_eq HB.out.symm) (by decide) rfl, (Below.refl _ _).alloc (Nat.le_of_eq HB.out.symm) _⟩
  case round =>
    obtain ⟨k, hk, rfl, rfl, rfl, hown, hbel⟩ := hrel
    obtain ⟨hh1, hh2⟩ := hi32_bd (zs.take k) (fun z h => hz z (List.mem_of_mem_take h))
    obtain ⟨hl1, hl2⟩ := lo32_bd (zs.take k)
    rw [List.length_take_of_le hk] at hh1 hh2 hl2
    by_cases hlt : k < zs.length
    · have hj : (k + m) % zs.length < zs.length := Nat.mod_lt _ (by omega)
      have hcx : wr.cell? ⟨b, off + k, none⟩ = some (.int .i64 (zs[k]?.getD 0)) := (hbel.cell (by exact hb)).trans (hc k hlt)
      have hcy : wr.cell? ⟨b, off + (k + m) % zs.length, none⟩ = some (.int .i64 (zs[(k + m) % zs.length]?.getD 0)) := (hbel.cell (by exact hb)).trans (hc _ hj)
      obtain ⟨xb1, xb2⟩ := at_mem hz k
      have S1 := Lib.hid (hi32_snoc zs k hlt)
      have S2 := Lib.hid (lo32_snoc zs k hlt)
      have hmx := mask32 (zs[k]?.getD 0)
      have hx1 : -2147483648 ≤ zs[k]?.getD 0 / 4294967296 := by omega
      have hx2 : zs[k]?.getD 0 / 4294967296 ≤ 2147483647 := by omega
      have hx3 : 0 ≤ zs[k]?.getD 0 % 4294967296 := by omega
      have hx4 : zs[k]?.getD 0 % 4294967296 ≤ 4294967295 := by omega
      obtain ⟨y, hy⟩ : ∃ y, zs[(k + m) % zs.length]?.getD 0 = y := ⟨_, rfl⟩
      rw [hy] at hcy
      generalize zs[k]?.getD 0 = x at *
      have HY := Lib.hid hy
      clear hy
      have hj1 : 0 ≤ ((k : Int) + (m : Int)) % (zs.length : Int) := Int.emod_nonneg _ (by omega)
      have hj2 : ((k : Int) + (m : Int)) % (zs.length : Int) < (zs.length : Int) := Int.emod_lt_of_pos _ (by omega)
      clear hj
      have hBr : B ≤ wr.heap.size := by have := hbel.size; rw [HB.out] at this; exact this
      go_wp2_with (first | (at_builtin; refine wpList_append_own _ rfl _ _ 60 rfl B 2 i0 (.int .i64 0) 1 8 Tryd.underlying60 I.out Z0.out Z1.out Z2.out rfl (by decide) _ _ _ rfl (hown.alloc _) ⟨wr.heap.size, 0, none⟩ 1 1 [.int .i64 y] rfl rfl ?c1 ?c2 ?c3 ?c4 ?c5 ?_))
      case c1 =>
        intro j u hj
        match j, hj with
        | 0, hj => simp at hj; subst hj; simp [Addr.add]
      case c2 => intro u hu; simp at hu; subst hu; rfl
      case c3 => unfold maxLen; omega
      case c4 => omega
      case c5 => simp; omega
      intro v' w1 hown' hgrow _
      have R := rel_step hlt hBr (by rw [HY.out]) hbel hown hown' hgrow
      clear hown' hgrow hown hcx hcy
      go_wp2
      go_roundw
      case rel => exact ⟨k + 1, by omega, by go_num, by rw [S1.out], by rw [S2.out], R.1, R.2⟩
      case measure => simp [intOf]; omega
    · have hke : k = zs.length := by omega
      subst hke
      rw [List.take_length] at *
      have R0 : Reads wr (.slice (some ⟨b, off, none⟩) zs.length cap) zs := .inr ⟨b, off, cap, rfl, fun i hi => (hbel.cell (by exact hb)).trans (hc i hi)⟩
      have R1 : Reads wr u7 (turned zs m zs.length) := reads_of_owns (by rw [turned_length]; exact hown)
      have hz' : ∀ z ∈ turned zs m zs.length, -9223372036854775808 ≤ z ∧ z ≤ 9223372036854775807 := by
        intro z hz2
        obtain ⟨i, _, rfl⟩ := List.mem_map.1 hz2
        exact at_mem hz _
      have hl' : (turned zs m zs.length).length ≤ 1000 := by rw [turned_length]; exact hlen
      have t1 : sumVal (turned zs m zs.length) = sumVal zs := by unfold sumVal; rw [tot_turn]
      have t2 : sumOk (turned zs m zs.length) = sumOk zs := by unfold sumOk; rw [tot_turn]
      have hmx := mask32 (lo32 zs)
      obtain ⟨y1, y2⟩ := by_halves zs _ _ rfl rfl
      have hlo : 0 ≤ lo32 zs % 4294967296 := by omega
      have hlo' : lo32 zs % 4294967296 < 4294967296 := by omega
      by_cases k1 : -2147483648 ≤ hi32 zs + lo32 zs / 4294967296
      · by_cases k2 : hi32 zs + lo32 zs / 4294967296 < 2147483648
        · have so : sumOk zs = true := by rw [y1]; simp [k1, k2]
          have sv : sumVal zs = tot zs := by unfold sumVal; unfold sumOk at so; rw [if_pos so]
          have hor : bits .or .i64 ((hi32 zs + lo32 zs / 4294967296) * 4294967296) (lo32 zs % 4294967296) = sumVal zs := by rw [or_halves _ _ k1 k2 hlo hlo', y2, sv]
          clear y1 y2 sv hc
          go_wp2_with fail
          refine (sumlist_calls _ zs _ R0 hlen hz).mono ?_
          rintro e w' ⟨rfl, rfl⟩
          go_wp2_with fail
          refine (sumlist_calls _ _ _ R1 hl' hz').mono ?_
          rintro e w' ⟨rfl, rfl⟩
          go_wp2_with fail
          go_ret
          exact ⟨rfl, hbel⟩
        · have so : sumOk zs = false := by rw [y1]; simp [k2]
          have sv : sumVal zs = 0 := by unfold sumVal; unfold sumOk at so; rw [so]; rfl
          clear y1 y2 hc
          go_wp2_with fail
          refine (sumlist_calls _ zs _ R0 hlen hz).mono ?_
          rintro e w' ⟨rfl, rfl⟩
          go_wp2_with fail
          refine (sumlist_calls _ _ _ R1 hl' hz').mono ?_
          rintro e w' ⟨rfl, rfl⟩
          go_wp2_with fail
          go_ret
          exact ⟨rfl, hbel⟩
      · have so : sumOk zs = false := by rw [y1]; simp [k1]
        have sv : sumVal zs = 0 := by unfold sumVal; unfold sumOk at so; rw [so]; rfl
        clear y1 y2 hc
        go_wp2_with fail
        refine (sumlist_calls _ zs _ R0 hlen hz).mono ?_
        rintro e w' ⟨rfl, rfl⟩
        go_wp2_with fail
        refine (sumlist_calls _ _ _ R1 hl' hz').mono ?_
        rintro e w' ⟨rfl, rfl⟩
        go_wp2_with fail
        go_ret
        exact ⟨rfl, hbel⟩

set_option maxRecDepth 100000 in
set_option maxHeartbeats 1000000 in
theorem totals_long (a : Option Addr) (len cap : Nat) (at' : Int) (w : World) (hs : Signs w) (hlen : 1000 < len) (hm : len ≤ maxLen) :
    Calls Tryd.prog 11 #[.slice a len cap, .int .i64 at'] w fun e w' => e = .returned (.bool true) ∧ Below w.heap.size w w' := by
  unfold maxLen at hm
  have h1000 : decide (1000 < len) = true := by simpa using hlen
  go_enter Tryd.func11, Tryd.ntmps11
  go_wp2_with (first | (go_at_call 28; refine (head_calls _ hs).mono ?_; rintro e w' ⟨rfl, rfl⟩))
  go_ret
  exact ⟨rfl, Below.refl _ _⟩

set_option maxRecDepth 100000 in
set_option maxHeartbeats 1000000 in
theorem totals_empty (a : Option Addr) (cap : Nat) (at' : Int) (w : World) (hs : Signs w) :
    Calls Tryd.prog 11 #[.slice a 0 cap, .int .i64 at'] w fun e w' => e = .returned (.bool true) ∧ Below w.heap.size w w' := by
  have b1 : Below w.heap.size w (w.alloc (.cells #[] 2)) := (Below.refl _ _).alloc (Nat.le_refl _) _
  have s1 : sumVal [] = 0 := by decide
  have s2 : sumOk [] = true := by decide
  have hor : bits .or .i64 0 0 = 0 := by decide
  have hand : bits .and .i64 0 4294967295 = 0 := by decide
  go_enter Tryd.func11, Tryd.ntmps11
  go_wp2_with (first | (go_at_call 28; refine (head_calls _ hs).mono ?_; rintro e w' ⟨rfl, rfl⟩))
  go_loop [5, 6, 7, 28] (fun h l v i => h = .int .i64 0 ∧ l = .int .i64 0 ∧ v = .slice (some ⟨w.heap.size, 0, none⟩) 0 0 ∧ i = .int .i64 0) (fun _ _ _ _ => 0)
  case atStart => exact ⟨rfl, rfl, rfl, rfl⟩
  case round =>
    obtain ⟨rfl, rfl, rfl, rfl⟩ := hrel
    go_wp2_with fail
    refine (sumlist_calls _ [] _ (.inl ⟨rfl, _, _, rfl⟩) (by decide) (fun z hz => by cases hz)).mono ?_
    rintro e w' ⟨rfl, rfl⟩
    go_wp2_with fail
    refine (sumlist_calls _ [] _ (.inl ⟨rfl, _, _, rfl⟩) (by decide) (fun z hz => by cases hz)).mono ?_
    rintro e w' ⟨rfl, rfl⟩
    go_wp2_with fail
    go_ret
    exact ⟨rfl, b1⟩

/-- What the walk is told of a slice of integers that came in. -/
def IsRow (k : IntKind) (w : World) (a : Option Addr) (len cap : Nat) (zs : List Int) : Prop :=
  (a = none ∧ len = 0 ∧ cap = 0 ∧ zs = []) ∨
  ∃ x, a = some x ∧ len ≤ cap ∧ cap ≤ maxLen ∧ zs.length = cap ∧ (∀ i, i < zs.length → w.cell? (x.add i) = some (.int k (zs.getD i 0))) ∧ ∀ n ∈ zs, (Lit.int k n).wf = true

theorem totals_walk (a : Option Addr) (len cap : Nat) (zs : List Int) (at' : Int) (w : World) (hs : Signs w) (h : IsRow .i64 w a len cap zs) (hbd : ∀ n, (Lit.int .i64 n).wf = true → -9223372036854775808 ≤ n ∧ n ≤ 9223372036854775807) :
    Calls Tryd.prog 11 #[.slice a len cap, .int .i64 at'] w fun e w' => e = .returned (.bool true) ∧ Below w.heap.size w w' := by
  rcases h with ⟨rfl, rfl, rfl, rfl⟩ | ⟨x, rfl, hl, hm, hz, hcell, hwz⟩
  · exact totals_empty _ _ _ _ hs
  · by_cases h0 : len = 0
    · subst h0; exact totals_empty _ _ _ _ hs
    · by_cases h1 : 1000 < len
      · exact totals_long _ _ _ _ _ hs h1 (by omega)
      · obtain ⟨b, off, spot⟩ := x
        have hc0 := hcell 0 (by omega)
        obtain rfl : spot = none := by simpa [Addr.add] using World.cell?_spot hc0
        have hb : b < w.heap.size := by
          rcases Nat.lt_or_ge b w.heap.size with h | h
          · exact h
          · simp [World.cell?, Addr.add, h] at hc0
        have hlt : (zs.take len).length = len := by simp; omega
        have key := totals_some b off cap (zs.take len) at' w hs (fun i hi => by
          have := hcell i (by omega)
          rw [show (⟨b, off, none⟩ : Addr).add i = ⟨b, off + i, none⟩ by simp only [Addr.add]; split <;> simp_all] at this
          rw [hlt] at hi
          rw [this, List.getElem?_take_of_lt hi, List.getD_eq_getElem?_getD]) (by omega) (by omega) (fun z hz => hbd z (hwz z (List.mem_of_mem_take hz))) hb
        rw [hlt] at key
        exact key
end Go.Proofs.YtfcjiiogigfjkaaDoor
