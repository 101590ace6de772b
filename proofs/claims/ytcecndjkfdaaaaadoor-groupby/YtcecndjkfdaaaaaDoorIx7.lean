/- Contract of index's Build. -/
import Derived.Test.YtcecndjkfdaaaaaDoorIx6
import Derived.Deep.Cut
import Derived.Deep.RegionLaw
import Derived.Deep.DeepCutAuto
namespace Go.Proofs.YtcecndjkfdaaaaaDoor
open Go.RowKit
set_option linter.unusedVariables false
set_option linter.unusedSimpArgs false

/-- How many slots, by the loop's rounds. -/
def roomF (n : Nat) : Nat → Nat → Nat
  | 0, m => m
  | f + 1, m => if m < 2 * n then roomF n f (2 * m) else m
def roomN (n : Nat) : Nat := roomF n 11 1
theorem pow_shift (m f : Nat) : 2 * m * 2 ^ f = m * 2 ^ (f + 1) := by rw [Nat.pow_succ, Nat.mul_comm 2 m, Nat.mul_assoc, Nat.mul_comm 2 (2 ^ f)]
theorem roomF_spec (n : Nat) (hn : n ≤ 1000) : ∀ f m, Pow2 m → 1 ≤ m → m ≤ 4000 → 2 * n ≤ m * 2 ^ f → Pow2 (roomF n f m) ∧ 2 * n ≤ roomF n f m ∧ 1 ≤ roomF n f m ∧ roomF n f m ≤ 4000 := by
  intro f
  induction f with
  | zero => intro m h1 h2 h3 h4; exact ⟨h1, by rw [Nat.pow_zero, Nat.mul_one] at h4; exact h4, h2, h3⟩
  | succ f ih =>
    intro m h1 h2 h3 h4
    unfold roomF
    by_cases h : m < 2 * n
    · rw [if_pos h]
      exact ih (2 * m) (h1.double (by omega)) (by omega) (by omega) (by rw [pow_shift]; exact h4)
    · rw [if_neg h]; exact ⟨h1, by omega, h2, h3⟩
theorem roomN_spec {n : Nat} (hn : n ≤ 1000) : Pow2 (roomN n) ∧ 2 * n ≤ roomN n ∧ 1 ≤ roomN n ∧ roomN n ≤ 4000 := roomF_spec n hn 11 1 ⟨0, by omega, rfl⟩ (by omega) (by omega) (by omega)
set_option maxRecDepth 100000 in
theorem room_is {n : Nat} (hn : n ≤ 1000) (w : World) : Calls Tryd.prog 45 #[.int .i64 n] w fun e w' => e = .returned (.int .i64 (roomN n)) ∧ w = w' := by
  go_enter Tryd.func45, Tryd.ntmps45
  go_wp2_with fail
  go_loop [3] (fun s => ∃ m f : Nat, s = .int .i64 m ∧ 1 ≤ m ∧ m ≤ 4000 ∧ Hid (roomF n f m = roomN n ∧ 2 * n ≤ m * 2 ^ f)) (fun s => 2 * n - (intOf s).toNat)
  case atStart => exact ⟨1, 11, rfl, by omega, by omega, Lib.hid ⟨rfl, by omega⟩⟩
  case round =>
    obtain ⟨m, f, rfl, h1, h2, HP⟩ := hrel
    by_cases hlt : m < 2 * n
    · have t1 : decide ((m : Int) < 2 * (n : Int)) = true := decide_eq_true (by omega)
      obtain ⟨f', hf'⟩ : ∃ f', f = f' + 1 := by
        cases f with
        | zero => have := HP.out.2; simp at this; omega
        | succ f' => exact ⟨f', rfl⟩
      have P' : Hid (roomF n f' (2 * m) = roomN n ∧ 2 * n ≤ (2 * m) * 2 ^ f') := Lib.hid (by
        have := HP.out
        rw [hf', roomF, if_pos hlt] at this
        exact ⟨this.1, by rw [pow_shift]; exact this.2⟩)
      clear hf'
      go_wp2_with fail
      go_round
      case rel => exact ⟨2 * m, f', by go_num, by omega, by omega, P'⟩
      case measure => simp [intOf]; omega
    · have t1 : decide ((m : Int) < 2 * (n : Int)) = false := decide_eq_false (by omega)
      have E : Hid (m = roomN n) := Lib.hid (by
        have := HP.out.1
        cases f with
        | zero => exact this
        | succ f' => rw [roomF, if_neg hlt] at this; exact this)
      go_wp2_with fail
      go_ret
      exact ⟨by rw [← E.out]; rfl, rfl⟩
/-- make under a name that the walk does not open. -/
noncomputable def mkM (t : TypeId) (l c : Value) : Sem Value := Instr.makeSlice t l c
theorem mk_rule (t : TypeId) (l c : Value) : Instr.makeSlice t l c = mkM t l c := rfl
/-- The index under way: columns K, empty table. C: from which block on its columns lie. -/
structure IxM (B C : Nat) (w : World) (g bs bn : Nat) (v : Value) (K : List RV) (M n : Nat) : Prop where
  obj : w.heap[g]? = some (.cells #[v, .slice (some ⟨bs, 0, none⟩) M M, .slice (some ⟨bn, 0, none⟩) n n, .int .i64 0] 74 (0, 0))
  own : w.ownsRow C 22 1 v K.length (K.map encV)
  rows : ∀ x ∈ K, (Row w x.1 x.2.1 ∧ x.2.1.length ≤ x.2.2) ∧ ∀ p, x.1 = some p → C ≤ p.block ∧ p.block < w.heap.size ∧ v.ownBlock ≠ some p.block
  o1 : w.ownsRow B 3 1 (.slice (some ⟨bs, 0, none⟩) M M) M ((List.replicate M (0 : Int)).map (Value.int .i64))
  o2 : w.ownsRow B 3 1 (.slice (some ⟨bn, 0, none⟩) n n) n ((List.replicate n (0 : Int)).map (Value.int .i64))
  n1 : g ≠ bs
  n2 : g ≠ bn
  n3 : bs ≠ bn
  hg : B ≤ g ∧ g < C
  hs : B ≤ bs ∧ bs < C
  hn : B ≤ bn ∧ bn < C
  hC : C ≤ w.heap.size
/-- After the literal. -/
def IxStart (B : Nat) (w : World) (M n : Nat) (v : Value) (w' : World) : Prop := ∃ g bs bn C, v = .pointer (some ⟨g, 0, none⟩) ∧ IxM B C w' g bs bn (.slice none 0 0) [] M n ∧ Below B w w'
theorem ix_start {B M n : Nat} {w w2 : World} {bs bn : Nat} (h1 : w2.ownsRow B 3 1 (.slice (some ⟨bs, 0, none⟩) M M) M ((List.replicate M (0 : Int)).map (Value.int .i64))) (h2 : w2.ownsRow B 3 1 (.slice (some ⟨bn, 0, none⟩) n n) n ((List.replicate n (0 : Int)).map (Value.int .i64))) (h3 : bs ≠ bn) (hb : Below B w w2) (hB : B ≤ w2.heap.size) :
    IxStart B w M n (.pointer (some ⟨w2.heap.size, 0, none⟩)) (w2.alloc (.cells #[.slice none 0 0, .slice (some ⟨bs, 0, none⟩) M M, .slice (some ⟨bn, 0, none⟩) n n, .int .i64 0] 74)) := by
  have l1 := h1.lt bs rfl
  have l2 := h2.lt bn rfl
  refine ⟨w2.heap.size, bs, bn, w2.heap.size + 1, rfl, ⟨heap_alloc_new w2 _, World.ownsRow_nil _ _ _ _, (fun x hx => by cases hx), h1.alloc _, h2.alloc _, by omega, by omega, h3, ⟨hB, by omega⟩, ⟨l1.1, by omega⟩, ⟨l2.1, by omega⟩, by simp⟩, hb.alloc hB _⟩
/-- append under a name that the walk does not open. -/
noncomputable def appM (ats : Array TypeId) (ty : TypeId) (args : Array Value) : Sem Value := Builtin.append_ ats ty args
theorem app_rule (ats : Array TypeId) (ty : TypeId) (args : Array Value) : Builtin.append_ ats ty args = appM ats ty args := rfl
theorem info22 : (Tryd.prog.info? 22).map (fun i => (i.zero, i.size, i.bytes)) = some (some (.slice none 0 0), 1, 24) := by kernel_rfl
theorem Seg.drewN {w : World} {p : Option Addr} {wd : Nat} {rs : List (List Int)} (h : Seg w p wd rs) (q : Nat) : Seg (w.drewN q) p wd rs := h.below (below_drewN (Below.refl _ _) q)
/-- One column more. -/
theorem ixm_push {B C : Nat} {wr w1 : World} {g bs bn : Nat} {v : Value} {K : List RV} {M n : Nat} (hM : IxM B C wr g bs bn v K M n) (hb1 : Below wr.heap.size wr w1) (x : RV) (hrow : Row w1 x.1 x.2.1) (hcap : x.2.1.length ≤ x.2.2) (hf : ∀ p, x.1 = some p → wr.heap.size ≤ p.block ∧ p.block < w1.heap.size) (hK : K.length ≤ 1000) :
    ∃ av cap w2, (appM #[32, 32] 32 #[v, .slice (some ⟨w1.heap.size, 0, none⟩) 1 1]).run Tryd.prog (w1.alloc (.cells #[encV x] 22)) = .ok (.slice av (K.length + 1) cap) w2 ∧ w2.cell? ⟨g, 0, none⟩ = some v ∧ w2.frozen? ⟨g, 0, none⟩ = false ∧
      IxM B C (w2.setCell ⟨g, 0, none⟩ (.slice av (K.length + 1) cap)) g bs bn (.slice av (K.length + 1) cap) (K ++ [x]) M n ∧ Below B wr (w2.setCell ⟨g, 0, none⟩ (.slice av (K.length + 1) cap)) := by
  obtain ⟨i0, hi, hz0, hz1, hz2⟩ := info_parts info22
  have hgl : g < wr.heap.size := (Array.getElem?_eq_some_iff.1 hM.obj).1
  have hvb : ∀ b, v.ownBlock = some b → C ≤ b ∧ b < wr.heap.size := hM.own.lt
  have s1 := hb1.size
  have k1 : Keeps (fun b => v.ownBlock = some b) wr (w1.alloc (.cells #[encV x] 22)) := (Keeps.of_below hb1).alloc _
  have hown := owns_keeps hM.own (Keeps.of_below (N := fun _ => False) hb1) (fun b _ h => h)
  obtain ⟨v', w2, hr, hown2, hgrow, _, hat⟩ := run_append_own_at (P := Tryd.prog) (w1.alloc (.cells #[encV x] 22)) C 32 32 22 i0 (.slice none 0 0) 1 24 Tryd.underlying32 hi hz0 hz1 hz2 rfl (by decide) v K.length (K.map encV) (hown.alloc _) ⟨w1.heap.size, 0, none⟩ 1 1 [encV x] rfl (cell_one_new w1 _ _) (fun u hu => by simp at hu; subst hu; rfl) (by unfold maxLen; omega) (by omega) (by have := hM.hC; simp; omega)
  obtain ⟨av, cap, rfl⟩ : ∃ av cap, v' = .slice av (K.length + 1) cap := by
    rcases hown2.2 with ⟨e1, e2⟩ | ⟨g', cap', _, e1, _⟩
    · exact absurd e2 (by omega)
    · exact ⟨_, cap', e1⟩
  have k2 := k1.trans (Keeps.of_grown hgrow (fun b hb => hb))
  have hgv : ¬ v.ownBlock = some g := fun e => by have := hvb g e; have := hM.hg; omega
  have obj2 := (k2.block g hgl hgv).trans hM.obj
  obtain ⟨q0, _⟩ := ixCells obj2
  have hwf : Keeps (fun b => v.ownBlock = some b ∨ b = g) wr (w2.setCell ⟨g, 0, none⟩ (.slice av (K.length + 1) cap)) := (k2.mono (fun b _ h => .inl h)).setCell (p := ⟨g, 0, none⟩) (.inr rfl) _
  have s2 : w1.heap.size + 1 ≤ w2.heap.size := by have := hgrow.size; simpa using this
  have sf : (w2.setCell ⟨g, 0, none⟩ (.slice av (K.length + 1) cap)).heap.size = w2.heap.size := by simp
  have hnew : ∀ b, (Value.slice av (K.length + 1) cap).ownBlock = some b → v.ownBlock = some b ∨ b = w1.heap.size + 1 := fun b hb => by
    rcases hat with e | e
    · left; rw [← e]; exact hb
    · right; rw [e] at hb; simp at hb; omega
  refine ⟨av, cap, w2, hr, q0, by simp [World.frozen?, obj2], ⟨blk_put0 obj2, ?_, ?_, ?_, ?_, hM.n1, hM.n2, hM.n3, hM.hg, hM.hs, hM.hn, by rw [sf]; have := hM.hC; omega⟩, hwf.below (by have := hM.hC; have := hM.hg; omega) (fun b hb => by
    rcases hb with e | rfl
    · have := hvb b e; have := hM.hg; omega
    · exact hM.hg.1)⟩
  · rw [List.length_append, List.map_append]
    exact ownsRow_setCell_below hown2 (a := ⟨g, 0, none⟩) hM.hg.2 _
  · intro y hy
    rcases List.mem_append.1 hy with h | h
    · obtain ⟨⟨h1, h2⟩, h3⟩ := hM.rows y h
      refine ⟨⟨h1.keeps hwf (fun p hp e => ?_), h2⟩, fun p hp => ?_⟩
      · have := h3 p hp
        rcases e with e | e
        · exact this.2.2 e
        · have := hM.hg; omega
      · have h4 := h3 p hp
        refine ⟨h4.1, by rw [sf]; omega, fun e => ?_⟩
        rcases hnew _ e with e | e
        · exact h4.2.2 e
        · omega
    · obtain rfl : y = x := by simpa using h
      have k3 : Keeps (fun b => v.ownBlock = some b ∨ b = g) w1 (w2.setCell ⟨g, 0, none⟩ (.slice av (K.length + 1) cap)) := (((Keeps.refl (fun b => v.ownBlock = some b ∨ b = g) w1).alloc _).trans (Keeps.of_grown hgrow (fun b hb => .inl hb))).setCell (p := ⟨g, 0, none⟩) (.inr rfl) _
      refine ⟨⟨hrow.keeps k3 (fun p hp e => ?_), hcap⟩, fun p hp => ?_⟩
      · have := hf p hp
        rcases e with e | e
        · have := hvb _ e; omega
        · omega
      · have h4 := hf p hp
        refine ⟨by have := hM.hC; omega, by rw [sf]; omega, fun e => ?_⟩
        rcases hnew _ e with e | e
        · have := hvb _ e; omega
        · omega
  · exact owns_keeps hM.o1 hwf (fun b hb e => by
      cases hb
      rcases e with e | e
      · have h5 := hvb bs e; have h6 := hM.hs; omega
      · exact hM.n1 e.symm)
  · exact owns_keeps hM.o2 hwf (fun b hb e => by
      cases hb
      rcases e with e | e
      · have h5 := hvb bn e; have h6 := hM.hn; omega
      · exact hM.n2 e.symm)
theorem ixm_push3 {B C : Nat} {wr w1 : World} {g bs bn : Nat} {v : Value} {K : List RV} {M n : Nat} (hM : IxM B C wr g bs bn v K M n) (hb1 : Below wr.heap.size wr w1) (xa : Option Addr) (xz : List Int) (xc : Nat) (hrow : Row w1 xa xz) (hcap : xz.length ≤ xc) (hf : ∀ p, xa = some p → wr.heap.size ≤ p.block ∧ p.block < w1.heap.size) (hK : K.length ≤ 1000) :
    ∃ av cap w2, (appM #[32, 32] 32 #[v, .slice (some ⟨w1.heap.size, 0, none⟩) 1 1]).run Tryd.prog (w1.alloc (.cells #[.slice xa xz.length xc] 22)) = .ok (.slice av (K.length + 1) cap) w2 ∧ w2.cell? ⟨g, 0, none⟩ = some v ∧ w2.frozen? ⟨g, 0, none⟩ = false ∧
      Hid (IxM B C (w2.setCell ⟨g, 0, none⟩ (.slice av (K.length + 1) cap)) g bs bn (.slice av (K.length + 1) cap) (K ++ [(xa, xz, xc)]) M n) ∧ Hid (Below B wr (w2.setCell ⟨g, 0, none⟩ (.slice av (K.length + 1) cap))) := by
  obtain ⟨av, cap, w2, h1, h2, h3, h4, h5⟩ := ixm_push hM hb1 (xa, xz, xc) hrow hcap hf hK
  exact ⟨av, cap, w2, h1, h2, h3, Lib.hid h4, Lib.hid h5⟩
/-- The positions in range. -/
def validP (wd : Nat) (keys : List Int) : List Nat := keys.filterMap fun k => if 0 ≤ k ∧ k < (wd : Int) then some k.toNat else none
theorem validP_take {wd : Nat} {keys : List Int} {i : Nat} (h : i < keys.length) : validP wd (keys.take (i + 1)) = if 0 ≤ keys[i]?.getD 0 ∧ keys[i]?.getD 0 < (wd : Int) then validP wd (keys.take i) ++ [(keys[i]?.getD 0).toNat] else validP wd (keys.take i) := by
  unfold validP
  rw [List.take_succ_eq_append_getElem h, List.filterMap_append, List.getElem?_eq_getElem h]
  by_cases e : 0 ≤ keys[i] ∧ keys[i] < (wd : Int)
  · rw [if_pos (by simpa using e)]; simp [e]
  · rw [if_neg (by simpa using e)]; simp [e]
theorem validP_len (wd : Nat) (keys : List Int) : (validP wd keys).length ≤ keys.length := List.length_filterMap_le _ _
theorem RRow.keeps {N : Nat → Prop} {w w' : World} {a : Option Addr} {K : List RV} (h : RRow w a K) (hk : Keeps N w w') (ha : ∀ p, a = some p → ¬ N p.block) (hx : ∀ x ∈ K, ∀ p, x.1 = some p → ¬ N p.block) : RRow w' a K := by
  refine ⟨?_, fun x hm => ⟨(h.2 x hm).1.keeps hk (hx x hm), (h.2 x hm).2⟩⟩
  rcases h.1 with rfl | ⟨b, off, rfl, hlt, hc⟩
  · exact .inl rfl
  · exact .inr ⟨b, off, rfl, Nat.lt_of_lt_of_le hlt hk.size, fun i hi => (World.cell?_of_block (a := ⟨b, off + i, none⟩) (hk.block b hlt (ha _ rfl))).trans (hc i hi)⟩
/-- The columns are done, and a key is made: the table may be filled. -/
theorem ixm_done {B C : Nat} {w w2 : World} {g bs bn : Nat} {ca : Option Addr} {cc : Nat} {K : List RV} {M n : Nat} (h : IxM B C w g bs bn (.slice ca K.length cc) K M n) (hg : w.grownBy w2 none) :
    IxW (fun b => IxN g bs bn b ∨ b = w.heap.size) B w2 g bs bn ca cc K (List.replicate M 0) (List.replicate n 0) 0 := by
  have k0 : Keeps (fun _ => False) w w2 := Keeps.of_grown hg (fun b hb => by cases hb)
  have hgl : g < w.heap.size := (Array.getElem?_eq_some_iff.1 h.obj).1
  obtain ⟨a', c', e, hR⟩ := rrow_of_owns h.own (fun x hx => (h.rows x hx).1)
  simp only [Value.slice.injEq] at e
  rw [← e.1] at hR
  refine ⟨by rw [List.length_replicate, List.length_replicate]; exact (k0.block g hgl (fun h => h)).trans h.obj, fun W hW => ?_, fun b hb => .inl hb, by rw [List.length_replicate]; exact owns_keeps h.o1 k0 (fun _ _ h => h), by rw [List.length_replicate]; exact owns_keeps h.o2 k0 (fun _ _ h => h), h.n1, h.n2, h.n3⟩
  have kW : Keeps (fun b => IxN g bs bn b ∨ b = w.heap.size) w W := (k0.mono (fun b _ hb => hb.elim)).trans hW
  have lt : ∀ p : Addr, C ≤ p.block ∧ p.block < w.heap.size → ¬ (IxN g bs bn p.block ∨ p.block = w.heap.size) := by
    rintro p hp ((e | e | e) | e)
    · have := h.hg; omega
    · have := h.hs; omega
    · have := h.hn; omega
    · omega
  refine hR.keeps kW (fun p hp => lt p ?_) (fun x hx p hp => lt p ⟨((h.rows x hx).2 p hp).1, ((h.rows x hx).2 p hp).2.1⟩)
  rcases h.own.2 with ⟨h0, _⟩ | ⟨g', c', cur, hv, hb, hh, _⟩
  · simp only [Value.slice.injEq] at h0; rw [h0.1] at hp; cases hp
  · simp only [Value.slice.injEq] at hv; rw [hv.1] at hp; cases hp; exact ⟨hb, (Array.getElem?_eq_some_iff.1 hh).1⟩
theorem IxW.other {N : Nat → Prop} {B : Nat} {w W : World} {g bs bn bk : Nat} {ca : Option Addr} {cc : Nat} {K : List RV} {sl nx : List Int} {cnt : Nat} (h : IxW N B w g bs bn ca cc K sl nx cnt) (hk : Keeps (fun b => b = bk) w W) (hb : N bk) (h1 : ¬ IxN g bs bn bk) : IxW N B W g bs bn ca cc K sl nx cnt := by
  have hgl : g < w.heap.size := (Array.getElem?_eq_some_iff.1 h.obj).1
  exact ⟨(hk.block g hgl (fun e => h1 (.inl e.symm))).trans h.obj, fun V hV => h.cols V ((hk.mono (fun b _ e => by rw [e]; exact hb)).trans hV), h.hN, owns_keeps h.o1 hk (fun b hb e => by cases hb; exact h1 (.inr (.inl e.symm))), owns_keeps h.o2 hk (fun b hb e => by cases hb; exact h1 (.inr (.inr e.symm))), h.n1, h.n2, h.n3⟩
/-- An index of rows with the keys kys. -/
def Ix (w : World) (g : Nat) (kys : List (List Int)) : Prop := ∃ K sl nx cnt M n, IxR w g K sl nx cnt ∧ (∀ x ∈ K, x.2.1.length = n) ∧ Tab M (homeOf M) (keysC K n) 0 sl nx cnt ∧ Pow2 M ∧ keysC K n = kys ∧ K.length ≤ 1000 ∧ n ≤ 1000
def IxRet (w : World) (kys : List (List Int)) (e : Ending) (w' : World) : Prop := ∃ g, e = .returned (.pointer (some ⟨g, 0, none⟩)) ∧ Ix w' g kys ∧ Below w.heap.size w w'
theorem keys_are {K : List RV} {wd n : Nat} {rs : List (List Int)} {keys : List Int} (hK : K.map (·.2.1) = (validP wd keys).map (colOf rs)) (hn : rs.length = n) (hw : ∀ r ∈ rs, r.length = wd) : keysC K n = rs.map fun r => keyL r keys := by
  apply List.ext_getElem?
  intro i
  by_cases hi : i < n
  · have e1 : (keysC K n)[i]? = some (keyC K i) := by simp [keysC, hi]
    have hi' : i < rs.length := by omega
    rw [e1, List.getElem?_map, List.getElem?_eq_getElem hi', Option.map_some]
    congr 1
    have e2 : keyC K i = (K.map (·.2.1)).map fun c => c[i]?.getD 0 := by simp [keyC]
    rw [e2, hK, List.map_map]
    unfold validP keyL
    rw [List.map_filterMap]
    congr 1
    funext z
    have hl := hw rs[i] (List.getElem_mem hi')
    by_cases hz : 0 ≤ z ∧ z < (wd : Int)
    · rw [if_pos hz, if_pos (by rw [hl]; exact hz)]
      simp [colOf, hi']
    · rw [if_neg hz, if_neg (by rw [hl]; exact hz)]; rfl
  · rw [List.getElem?_eq_none (by rw [keysC_len]; omega), List.getElem?_eq_none (by simp; omega)]
theorem take_set_next {l m : List Int} {k : Nat} (h : k < l.length) (hm : k < m.length) (e : l.take k = m.take k) : (l.set k (m[k]?.getD 0)).take (k + 1) = m.take (k + 1) := by
  rw [List.take_succ_eq_append_getElem hm, ← e]
  rw [List.take_succ_eq_append_getElem (by rw [List.length_set]; exact h), List.take_set_of_le (Nat.le_refl k)]
  simp [hm]
section
attribute [local go_sem ↓] mk_rule
attribute [local go_sem ↓] app_rule
set_option maxRecDepth 100000 in
set_option maxHeartbeats 4000000 in
theorem build_calls {w : World} {p : Option Addr} {wd : Nat} {rs : List (List Int)} (h : Seg w p wd rs) (a : Option Addr) (cap : Nat) (keys : List Int) (hk : Row w a keys) (hkl : keys.length ≤ 1000) (hwd : wd ≤ 1000) (hrs : rs.length ≤ 1000) :
    Calls Tryd.prog 29 #[.pointer p, .slice a keys.length cap] w (IxRet w (rs.map fun r => keyL r keys)) := by
  obtain ⟨i1, hi', hz0', hz1', hz2'⟩ := info_parts info3
  obtain ⟨B, hB⟩ : ∃ B, w.heap.size = B := ⟨_, rfl⟩
  have HB := Lib.hid hB
  have hR := roomN_spec hrs
  have cr := room_is hrs
  generalize roomN rs.length = M at *
  have cl : ∀ W, Below B w W → Calls Tryd.prog 14 #[.pointer p] W fun e w' => e = .returned (.int .i64 rs.length) ∧ W = w' := fun W hW => segLen_calls (h.belowB HB.out hW)
  obtain ⟨n, hn⟩ : ∃ n, rs.length = n := ⟨_, rfl⟩
  rw [hn] at cr cl hrs hR
  -- the two orders of the two makes
  obtain ⟨wA, rA, oA, gA⟩ := run_make_full (P := Tryd.prog) w.drew B 33 3 i1 (.int .i64 0) 1 Tryd.underlying33 hi' hz0' hz1' .i64 .i64 M (by rw [hz2']; omega) (by unfold maxLen; omega) (by rw [← hB]; exact Nat.le_refl _)
  have bA : Below B w wA := (below_drewN (Below.refl B w) 1).grown gA (by rw [← hB]; exact Nat.le_refl _) (fun k hk => by cases hk)
  have sA := bA.size
  obtain ⟨wA2, rA2, oA2, gA2⟩ := run_make_full (P := Tryd.prog) wA B 33 3 i1 (.int .i64 0) 1 Tryd.underlying33 hi' hz0' hz1' .i64 .i64 n (by rw [hz2']; omega) (by unfold maxLen; omega) (by omega)
  obtain ⟨wB, rB, oB, gB⟩ := run_make_full (P := Tryd.prog) w.drew B 33 3 i1 (.int .i64 0) 1 Tryd.underlying33 hi' hz0' hz1' .i64 .i64 n (by rw [hz2']; omega) (by unfold maxLen; omega) (by rw [← hB]; exact Nat.le_refl _)
  have bB : Below B w wB := (below_drewN (Below.refl B w) 1).grown gB (by rw [← hB]; exact Nat.le_refl _) (fun k hk => by cases hk)
  have sB := bB.size
  obtain ⟨wB2, rB2, oB2, gB2⟩ := run_make_full (P := Tryd.prog) wB B 33 3 i1 (.int .i64 0) 1 Tryd.underlying33 hi' hz0' hz1' .i64 .i64 M (by rw [hz2']; omega) (by unfold maxLen; omega) (by omega)
  have e0 : w.drew.heap.size = B := hB
  have sA1 : wA.heap.size ≠ B := by
    have h1 : w.drew.heap.size < wA.heap.size := (oA.lt _ rfl).2
    rw [e0] at h1; omega
  have sB1 : wB.heap.size ≠ B := by
    have h1 : w.drew.heap.size < wB.heap.size := (oB.lt _ rfl).2
    rw [e0] at h1; omega
  rw [e0, Nat.mul_one] at oA oB
  rw [Nat.mul_one] at oA2 oB2
  have m1 : ∀ k, (madeCells (Value.int .i64 0).cells k).toList = (List.replicate k (0 : Int)).map (Value.int .i64) := made_ints
  rw [m1] at oA oB oA2 oB2
  have stA := Lib.hid (ix_start (oA.kept gA2 (.inr (by simp [Value.ownBlock]))) oA2 (Ne.symm sA1) (bA.grown gA2 (by omega) (fun k hk => by cases hk)) (by have := gA2.size; omega))
  have stB := Lib.hid (ix_start oB2 (oB.kept gB2 (.inr (by simp [Value.ownBlock]))) sB1 (bB.grown gB2 (by omega) (fun k hk => by cases hk)) (by have := gB2.size; omega))
  have BA := Lib.hid bA
  have BB := Lib.hid bB
  rw [mk_rule] at rA rA2 rB rB2
  clear oA gA oA2 gA2 oB gB oB2 gB2 sA sB bA bB sA1 sB1 m1 hi' hz0' hz1' hz2'
  have HK := Lib.hid hk
  have HS := Lib.hid h
  have HN := Lib.hid hn
  clear hk h hn e0
  go_enter Tryd.func29, Tryd.ntmps29
  go_upto_region 1 with fail
  go_cut [5] from 13 (fun v wx => IxStart B w M n v wx)
  case first =>
    go_region_with (first | (go_at_call 14; refine (cl _ (by first | exact BA.out | exact BB.out | exact below_drewN (Below.refl _ _) 1)).mono ?_; rintro e w' ⟨rfl, rfl⟩) | (go_at_call 45; refine (cr _).mono ?_; rintro e w' ⟨rfl, rfl⟩))
    all_goals go_wp2_with fail
    all_goals go_meet
    all_goals first | exact stA.out | exact stB.out
  case rest =>
    obtain ⟨g, bs, bn, C, rfl, hIM, hbe⟩ := hcut
    have IM := Lib.hid hIM
    have BE := Lib.hid hbe
    clear hIM hbe rA rA2 rB rB2 stA stB BA BB cr
    go_wp2_with fail
    go_loopw [24] (fun s wr => ∃ (k : Nat) (v : Value) (K : List RV), k ≤ keys.length ∧ s = .int .i64 k ∧ Hid (IxM B C wr g bs bn v K M n) ∧ Hid (K.map (·.2.1) = (validP wd (keys.take k)).map (colOf rs)) ∧ Hid (Below B w wr)) (fun s _ => keys.length - (intOf s).toNat)
    case atStart => exact ⟨0, _, [], Nat.zero_le _, rfl, IM, Lib.hid rfl, BE⟩
    case round =>
      obtain ⟨k, v, K, hkk, rfl, HM, HC, HBe⟩ := hrel
      have hBr : B ≤ wr.heap.size := by have := HBe.out.size; rw [HB.out] at this; exact this
      by_cases hlt : k < keys.length
      · obtain ⟨b2, off2, rfl, hb2, hc2⟩ := (HK.out.belowB HB.out HBe.out).at hlt
        have ST := Lib.hid (validP_take (wd := wd) hlt)
        have cw := segWidth_calls (HS.out.belowB HB.out HBe.out)
        generalize keys[k]?.getD 0 = z at *
        by_cases hz : 0 ≤ z
        · have t1 : decide ((0 : Int) ≤ z) = true := decide_eq_true hz
          by_cases hz2 : z < (wd : Int)
          · have t2 : decide (z < (wd : Int)) = true := decide_eq_true hz2
            obtain ⟨j, hj⟩ : ∃ j : Nat, z = j := ⟨z.toNat, by omega⟩
            have ST2 : Hid (validP wd (keys.take (k + 1)) = validP wd (keys.take k) ++ [j]) := Lib.hid (by rw [ST.out, if_pos ⟨hz, hz2⟩, hj]; rfl)
            subst hj
            have hKl : K.length ≤ 1000 := by
              have := congrArg List.length HC.out
              simp only [List.length_map] at this
              have h2 := validP_len wd (keys.take k)
              simp at h2; omega
            have cc := col_calls (Seg.drewN (HS.out.belowB HB.out HBe.out) 1) j (by omega) hwd (by rw [HN.out]; omega)
            have c0 : wr.cell? ⟨g, 0, none⟩ = some v := (ixCells HM.out.obj).1
            have G := Lib.hid (show g < wr.heap.size from (Array.getElem?_eq_some_iff.1 HM.out.obj).1)
            have t3 : decide (j < wd) = true := decide_eq_true (by omega)
            have t4 : j < wd := by omega
            clear ST hz hz2
            go_wp2_with fail
            refine cw.mono ?_
            rintro e w' ⟨rfl, rfl⟩
            go_wp2_with fail
            go_region_law (first | (go_simp; go_at_call 43; refine cc.mono ?_; rintro e w1 ⟨a9, c9, rfl, hr9, hc9, hf9, hb9⟩; have hb8 : Below wr.heap.size wr w1 := (below_drewN (Below.refl _ _) 1).trans hb9; obtain ⟨av, cp, w2, hrun, e1, e2, I2, B2⟩ := ixm_push3 HM.out hb8 a9 (colOf rs j) c9 hr9 hc9 hf9 hKl; have c0' : w1.cell? ⟨g, 0, none⟩ = some v := (hb8.cell (p := ⟨g, 0, none⟩) G.out).trans c0; have gn : ¬ g = w1.heap.size := (by have := hb8.size; have := G.out; omega); have c0'' : (w1.alloc (.cells #[.slice a9 (colOf rs j).length c9] 22)).cell? ⟨g, 0, none⟩ = some v := (((Below.refl w1.heap.size w1).alloc (Nat.le_refl _) _).cell (p := ⟨g, 0, none⟩) (by have := hb8.size; have := G.out; show g < w1.heap.size; omega)).trans c0'; clear hr9 hf9 hb9 hb8))
            all_goals go_wp2_with fail
            all_goals go_roundw
            all_goals first | (exact ⟨k + 1, _, _, by omega, by go_num, I2, Lib.hid (by rw [ST2.out, List.map_append, List.map_append, HC.out]; rfl), Lib.hid (HBe.out.trans B2.out)⟩) | (simp [intOf]; omega)
          · have t2 : decide (z < (wd : Int)) = false := decide_eq_false hz2
            have C2 : Hid (K.map (·.2.1) = (validP wd (keys.take (k + 1))).map (colOf rs)) := Lib.hid (by rw [ST.out, if_neg (fun h => hz2 h.2)]; exact HC.out)
            clear ST hz2
            go_wp2_with fail
            refine cw.mono ?_
            rintro e w' ⟨rfl, rfl⟩
            go_wp2_with fail
            go_roundw
            case rel => exact ⟨k + 1, _, _, by omega, by go_num, HM, C2, HBe⟩
            case measure => simp [intOf]; omega
        · have t1 : decide ((0 : Int) ≤ z) = false := decide_eq_false hz
          have C2 : Hid (K.map (·.2.1) = (validP wd (keys.take (k + 1))).map (colOf rs)) := Lib.hid (by rw [ST.out, if_neg (fun h => hz h.1)]; exact HC.out)
          clear ST hz cw
          go_wp2_with fail
          go_roundw
          case rel => exact ⟨k + 1, _, _, by omega, by go_num, HM, C2, HBe⟩
          case measure => simp [intOf]; omega
      · obtain ⟨w4, rfl⟩ : ∃ x, x = wr := ⟨wr, rfl⟩
        have HC2 : Hid (K.map (·.2.1) = (validP wd keys).map (colOf rs)) := Lib.hid (by have := HC.out; rw [List.take_of_length_le (by omega)] at this; exact this)
        have hKl : K.length ≤ 1000 := by
          have h1 := congrArg List.length HC2.out
          simp only [List.length_map] at h1
          have h2 := validP_len wd keys
          omega
        obtain ⟨ca, cc, rfl, _⟩ := rrow_of_owns HM.out.own (fun x hx => (HM.out.rows x hx).1)
        have c0 : w4.cell? ⟨g, 0, none⟩ = some (.slice ca K.length cc) := (ixCells HM.out.obj).1
        obtain ⟨i2, hi2, hy0, hy1, hy2⟩ := info_parts info2
        have I' := Lib.hid hi2
        have Z0' := Lib.hid hy0
        have Z1' := Lib.hid hy1
        have Z2' := Lib.hid hy2
        have HBs := Lib.hid hBr
        have tk : decide (k < keys.length) = false := decide_eq_false hlt
        clear hi2 hy0 hy1 hy2 IM BE hlt hBr HC
        go_wp2_with (first | (refine wpList_make_full _ rfl (.tmp 53) (.tmp 53) 22 rfl B 2 i2 (.int .i64 0) 1 Tryd.underlying22 I'.out Z0'.out Z1'.out .i64 .i64 _ _ K.length rfl rfl rfl rfl ?d1 ?d2 ?d3 ?_))
        case d1 => rw [Z2'.out]; omega
        case d2 => unfold maxLen; omega
        case d3 => exact HBs.out
        intro w5 hown hgrow
        obtain ⟨bk, hbk⟩ : ∃ c, w4.heap.size = c := ⟨_, rfl⟩
        have hIW := ixm_done HM.out hgrow
        have hB5 : Below B w w5 := HBe.out.grown hgrow HBs.out (fun k hk => by cases hk)
        rw [hbk] at hown hIW ⊢
        rw [made_ints] at hown
        have IW := Lib.hid hIW
        have OK := Lib.hid hown
        have B5 := Lib.hid hB5
        have hNk : ¬ IxN g bs bn bk := by
          have h1 := HM.out.hg; have h2 := HM.out.hs; have h3 := HM.out.hn; have h4 := HM.out.hC
          rintro (e | e | e) <;> omega
        have NK := Lib.hid hNk
        have HNn : Hid (∀ x ∈ K, x.2.1.length = n) := Lib.hid (fun x hx => by
          have h1 : x.2.1 ∈ K.map (·.2.1) := List.mem_map_of_mem hx
          rw [HC2.out] at h1
          obtain ⟨j, _, hj⟩ := List.mem_map.1 h1
          rw [← hj, colOf_len, HN.out])
        have hnM : n < M := by have := hR.2.1; have := hR.2.2.1; omega
        have T0 : Hid (Tab M (homeOf M) (keysC K n) n (List.replicate M 0) (List.replicate n 0) 0) := Lib.hid (by
          have := Tab.empty (homeOf M) (keysC K n) (M := M) (by rw [keysC_len]; exact hnM)
          rw [keysC_len] at this; exact this)
        have GB : Hid (∀ b, IxN g bs bn b → B ≤ b) := Lib.hid (by
          rintro b (e | e | e)
          · rw [e]; exact HM.out.hg.1
          · rw [e]; exact HM.out.hs.1
          · rw [e]; exact HM.out.hn.1)
        have KB : Hid (B ≤ bk) := Lib.hid (by rw [← hbk]; exact HBs.out)
        have HP2 := Lib.hid hR.1
        clear hown hgrow hIW hB5 hbk HM hNk c0 hR hnM
        have cl5 := cl w5 B5.out
        go_wp2_with fail
        refine cl5.mono ?_
        rintro e w' ⟨rfl, rfl⟩
        clear cl5
        go_wp2_with fail
        go_loopw [57] (fun s wr => ∃ (i : Nat) (sl nx ks : List Int) (cnt : Nat), i ≤ n ∧ s = .int .i64 i ∧ ks.length = K.length ∧ Hid (IxW (fun b => IxN g bs bn b ∨ b = bk) B wr g bs bn ca cc K sl nx cnt) ∧ Hid (Tab M (homeOf M) (keysC K n) (n - i) sl nx cnt) ∧ Hid (wr.ownsRow B 2 1 (.slice (some ⟨bk, 0, none⟩) K.length K.length) K.length (ks.map (Value.int .i64))) ∧ Hid (Below B w wr)) (fun s _ => n - (intOf s).toNat)
        case atStart => exact ⟨0, _, _, List.replicate K.length 0, _, Nat.zero_le _, rfl, by simp, IW, T0, OK, B5⟩
        case round =>
          obtain ⟨i, sl, nx, ks, cnt, hin, rfl, hks, HI, HT, HO, HBr⟩ := hrel
          by_cases hil : i < n
          · obtain ⟨r, hr⟩ : ∃ r : Nat, n - i = r + 1 := ⟨n - i - 1, by omega⟩
            have er : (n : Int) - 1 - (i : Int) = (r : Int) := by omega
            have hrn : r < n := by omega
            have HR' := Lib.hid hr
            rw [hr] at HT
            clear hr
            have clr := cl wr HBr.out
            have c0 : wr.cell? ⟨g, 0, none⟩ = some (.slice ca K.length cc) := (ixCells HI.out.obj).1
            go_wp2_with fail
            refine clr.mono ?_
            rintro e w' ⟨rfl, rfl⟩
            clear clr
            go_wp2_with fail
            obtain ⟨w6, rfl⟩ : ∃ x, x = wr := ⟨wr, rfl⟩
            clear c0
            go_loopw [70] (fun s wv => ∃ (k : Nat) (ks : List Int), k ≤ K.length ∧ s = .int .i64 k ∧ ks.length = K.length ∧ Hid (ks.take k = (keyC K r).take k) ∧ Hid (wv.ownsRow B 2 1 (.slice (some ⟨bk, 0, none⟩) K.length K.length) K.length (ks.map (Value.int .i64))) ∧ Hid (Keeps (fun b => b = bk) w6 wv)) (fun s _ => K.length - (intOf s).toNat)
            case atStart => exact ⟨0, ks, Nat.zero_le _, rfl, hks, Lib.hid rfl, HO, Lib.hid (Keeps.refl _ _)⟩
            case round =>
              obtain ⟨k, ks', hk', rfl, hks', HE, HOv, HKv⟩ := hrel
              have HIv := Lib.hid (HI.out.other HKv.out (.inr rfl) NK.out)
              by_cases hlt : k < K.length
              · obtain ⟨b1, off1, rfl, hb1, hc1, hr1, _⟩ := (HIv.out.cols wr (Keeps.refl _ _)).at hlt
                have hln := HNn.out _ (atV_mem hlt)
                obtain ⟨b2, off2, hb2a, hb2, hc2⟩ := hr1.at (k := r) (by omega)
                rw [hb2a, hln] at hc1
                rw [← keyC_at hlt] at hc2
                have cc2 := HOv.out.cellAt k (by omega)
                rw [List.getElem?_map, List.getElem?_eq_getElem (by omega), Option.map_some] at cc2
                have fc := HOv.out.frozenAt k
                have SN : Hid ((ks'.set k ((keyC K r)[k]?.getD 0)).take (k + 1) = (keyC K r).take (k + 1)) := Lib.hid (take_set_next (by omega) (by rw [keyC_len]; exact hlt) HE.out)
                have hst : Hid ((wr.setCell ⟨bk, k, none⟩ (.int .i64 ((keyC K r)[k]?.getD 0))).ownsRow B 2 1 (.slice (some ⟨bk, 0, none⟩) K.length K.length) K.length ((ks'.set k ((keyC K r)[k]?.getD 0)).map (Value.int .i64))) := Lib.hid (by
                  have := (HOv.out.stored k (.int .i64 ((keyC K r)[k]?.getD 0))).1
                  rw [← List.map_set] at this
                  exact this)
                have hkp : Hid (Keeps (fun b => b = bk) w6 (wr.setCell ⟨bk, k, none⟩ (.int .i64 ((keyC K r)[k]?.getD 0)))) := Lib.hid (HKv.out.setCell (p := ⟨bk, k, none⟩) rfl _)
                generalize (keyC K r)[k]?.getD 0 = y at *
                generalize ks'[k] = y0 at *
                have q1 : (r : Int) < (n : Int) := by omega
                clear hr1 hb2a hln
                go_wp2_with fail
                go_roundw
                case rel => exact ⟨k + 1, ks'.set k y, by omega, by go_num, by rw [List.length_set]; exact hks', SN, hst, hkp⟩
                case measure => simp [intOf]; omega
              · have HF : Hid (ks' = keyC K r) := Lib.hid (by
                  have := HE.out
                  rw [List.take_of_length_le (by omega), List.take_of_length_le (by rw [keyC_len]; omega)] at this
                  exact this)
                have HRk : Row wr (some ⟨bk, 0, none⟩) (keyC K r) := by
                  have := HOv.out
                  rw [HF.out] at this
                  obtain ⟨a9, c9, e9, h9⟩ := row_of_owns this
                  simp only [Value.slice.injEq] at e9
                  rw [e9.1]; exact h9
                have cp := put_calls HIv.out HNn.out HT.out HP2.out (some ⟨bk, 0, none⟩) K.length (keyC K r) HRk rfl (by omega) (by omega)
                rw [keyC_len] at cp
                clear HRk
                go_wp2_with fail
                refine cp.mono ?_
                rintro e w7 ⟨rfl, sl', nx', cnt', hI7, hT7, hK7⟩
                have I7 := Lib.hid hI7
                have T7 : Hid (Tab M (homeOf M) (keysC K n) (n - (i + 1)) sl' nx' cnt') := Lib.hid (by rw [show n - (i + 1) = r by have := HR'.out; omega]; exact hT7)
                have O7 := Lib.hid (owns_keeps HOv.out hK7 (fun b hb e => by cases hb; exact NK.out e))
                have S6 : Hid (B ≤ w6.heap.size) := Lib.hid (by have := HBr.out.size; rw [HB.out] at this; exact this)
                have B7 : Hid (Below B w w7) := Lib.hid ((HBr.out.trans (HKv.out.below S6.out (fun b e => by rw [e]; exact KB.out))).trans (hK7.below (by have := HKv.out.size; have := S6.out; omega) GB.out))
                clear hI7 hT7 hK7 cp
                go_wp2_with fail
                go_roundw
                case rel => exact ⟨i + 1, sl', nx', ks', cnt', by omega, by go_num, hks', I7, T7, O7, B7⟩
                case measure => simp [intOf]; omega
          · have TF : Hid (Tab M (homeOf M) (keysC K n) 0 sl nx cnt) := Lib.hid (by have := HT.out; rw [show n - i = 0 by omega] at this; exact this)
            go_wp2_with fail
            go_ret
            exact ⟨g, rfl, ⟨K, sl, nx, cnt, M, n, HI.out.read, HNn.out, TF.out, HP2.out, keys_are HC2.out HN.out HS.out.2.1, hKl, hrs⟩, by rw [HB.out]; exact HBr.out⟩
end
end Go.Proofs.YtcecndjkfdaaaaaDoor
