/- Contract of group's By. -/
import Derived.Test.YtcecndjkfdaaaaaDoorGr2
import Derived.Test.YtcecndjkfdaaaaaDoorGk
import Derived.Test.YtcecndjkfdaaaaaDoorJn0
import Derived.Test.YtcecndjkfdaaaaaDoorSg7F
namespace Go.Proofs.YtcecndjkfdaaaaaDoor
open Go.RowKit
set_option linter.unusedVariables false
set_option linter.unusedSimpArgs false

theorem info4 : (Tryd.prog.info? 4).map (fun i => (i.zero, i.size, i.bytes)) = some (some (.bool false), 1, 1) := by kernel_rfl
theorem made_bools (n : Nat) : (madeCells #[Value.bool false] n).toList = (List.replicate n false).map Value.bool := (toList_madeCells_one _ n).trans (by simp)
theorem mem_rowsTo {kys : List (List Int)} {κ : List Int} {m j : Nat} : j ∈ rowsTo kys κ m ↔ j < m ∧ kyAt kys j = κ := by simp [rowsTo]
/-- Which rows are done: those whose key was met before row k, and the first m of some rows. -/
def DS (kys : List (List Int)) (n k : Nat) (rows : List Nat) (m : Nat) (ds : List Bool) : Prop := ds.length = n ∧ ∀ j, j < n → (ds[j]?.getD false = true ↔ (kyAt kys j ∈ kys.take k ∨ j ∈ rows.take m))
theorem DS.start (kys : List (List Int)) (n : Nat) : DS kys n 0 [] 0 (List.replicate n false) := ⟨by simp, fun j hj => by simp [hj]⟩
theorem DS.enter {kys : List (List Int)} {n k : Nat} {ds : List Bool} (h : DS kys n k [] 0 ds) (rows : List Nat) : DS kys n k rows 0 ds := ⟨h.1, fun j hj => by have := h.2 j hj; simpa using this⟩
theorem take_kys {kys : List (List Int)} {k : Nat} (hk : k < kys.length) : kys.take (k + 1) = kys.take k ++ [kyAt kys k] := by
  rw [List.take_succ_eq_append_getElem hk]; unfold kyAt; rw [List.getElem?_eq_getElem hk]; rfl
theorem DS.skip {kys : List (List Int)} {n k : Nat} {ds : List Bool} (h : DS kys n k [] 0 ds) (hk : k < kys.length) (hs : kyAt kys k ∈ kys.take k) : DS kys n (k + 1) [] 0 ds := ⟨h.1, fun j hj => by
  rw [h.2 j hj, take_kys hk]
  simp
  intro e; rw [e]; exact hs⟩
theorem DS.set {kys : List (List Int)} {n k : Nat} {rows : List Nat} {m r : Nat} {ds : List Bool} (h : DS kys n k rows m ds) (hm : rows[m]? = some r) (hr : r < n) : DS kys n k rows (m + 1) (ds.set r true) := ⟨by rw [List.length_set]; exact h.1, fun j hj => by
  have hl : m < rows.length := (List.getElem?_eq_some_iff.1 hm).1
  have e : rows.take (m + 1) = rows.take m ++ [r] := by rw [List.take_succ_eq_append_getElem hl, (List.getElem?_eq_some_iff.1 hm).2]
  rw [e, List.getElem?_set]
  by_cases ej : r = j
  · subst ej; simp [h.1, hr]
  · rw [if_neg ej, h.2 j hj]; simp [show ¬ j = r from fun e => ej e.symm]⟩
theorem DS.done {kys : List (List Int)} {n k : Nat} {ds : List Bool} (hn : n = kys.length) (hk : k < n) {m : Nat} (hm : (rowsOf kys (kyAt kys k)).length ≤ m) (h : DS kys n k (rowsOf kys (kyAt kys k)) m ds) : DS kys n (k + 1) [] 0 ds := ⟨h.1, fun j hj => by
  rw [h.2 j hj, List.take_of_length_le hm, take_kys (by omega), rowsOf, mem_rowsTo]
  simp
  constructor
  · rintro (h | h); exact .inl h; exact .inr h.2
  · rintro (h | h); exact .inl h; exact .inr ⟨by omega, h⟩⟩
/-- The rows made and the rows done, under way. -/
structure GB (B bd n : Nat) (X wr : World) (v : Value) (L : List RV) (ds : List Bool) : Prop where
  ul : UL B wr v L
  nb : ∀ b, v.ownBlock = some b → b ≠ bd
  nr : ∀ x ∈ L, ∀ p, x.1 = some p → p.block ≠ bd
  hbd : B ≤ bd ∧ bd < wr.heap.size
  dn : wr.ownsRow B 4 1 (.slice (some ⟨bd, 0, none⟩) n n) n (ds.map Value.bool)
  bel : Below B X wr
theorem GB.below {B bd n : Nat} {X wr w' : World} {v : Value} {L : List RV} {ds : List Bool} (h : GB B bd n X wr v L ds) (hB : B ≤ wr.heap.size) (hb : Below wr.heap.size wr w') : GB B bd n X w' v L ds :=
  ⟨h.ul.below hb, h.nb, h.nr, ⟨h.hbd.1, Nat.lt_of_lt_of_le h.hbd.2 hb.size⟩, owns_keeps h.dn (Keeps.of_below (N := fun _ => False) hb) (fun _ _ h => h), h.bel.trans (hb.mono hB)⟩
/-- The done row turns alone. -/
theorem GB.turned {B bd n : Nat} {X wr w' : World} {v : Value} {L : List RV} {ds ds' : List Bool} (h : GB B bd n X wr v L ds) (hB : B ≤ wr.heap.size) (hk : Keeps (fun b => b = bd) wr w') (hd : w'.ownsRow B 4 1 (.slice (some ⟨bd, 0, none⟩) n n) n (ds'.map Value.bool)) : GB B bd n X w' v L ds' :=
  ⟨h.ul.keeps hk (fun b hb => h.nb b hb) (fun x hx p hp => h.nr x hx p hp), h.nb, h.nr, ⟨h.hbd.1, Nat.lt_of_lt_of_le h.hbd.2 hk.size⟩, hd, h.bel.trans (hk.below hB (fun b e => by rw [e]; exact h.hbd.1))⟩
/-- Only blocks from M on turn; the rows made, and the rows done, lie before. -/
theorem GB.off {B bd n M : Nat} {X wr w' : World} {v : Value} {L : List RV} {ds : List Bool} (h : GB B bd n X wr v L ds) (hv : ∀ b, v.ownBlock = some b → b < M) (hr : ∀ x ∈ L, ∀ p, x.1 = some p → p.block < M) (hd : bd < M) (hM : B ≤ M) (hB : B ≤ wr.heap.size) (hk : Keeps (fun b => M ≤ b) wr w') : GB B bd n X w' v L ds :=
  ⟨h.ul.keeps hk (fun b hb e => by have := hv b hb; omega) (fun x hx p hp e => by have := hr x hx p hp; omega), h.nb, h.nr, ⟨h.hbd.1, Nat.lt_of_lt_of_le h.hbd.2 hk.size⟩, owns_keeps h.dn hk (fun b hb e => by cases hb; exact absurd e (show ¬ M ≤ bd by omega)), h.bel.trans (hk.below hB (fun b e => by omega))⟩
theorem GB.push {B bd n M : Nat} {X wr w2 : World} {v v' : Value} {L : List RV} {ds : List Bool} (h : GB B bd n X wr v L ds) (hv : ∀ b, v.ownBlock = some b → b < M) (hd : bd < M) (hB : B ≤ wr.heap.size) {x : RV} {o : Obj} (hrow : Row wr x.1 x.2.1) (hcap : x.2.1.length ≤ x.2.2) (hf : ∀ p, x.1 = some p → M ≤ p.block ∧ p.block < wr.heap.size)
    (hown : w2.ownsRow B 22 1 v' (L.length + 1) (L.map encV ++ [encV x])) (hgrow : (wr.alloc o).grownBy w2 v.ownBlock) (hat : v'.ownBlock = v.ownBlock ∨ v'.ownBlock = some (wr.alloc o).heap.size) : GB B bd n X w2 v' (L ++ [x]) ds := by
  have s2 : wr.heap.size + 1 ≤ w2.heap.size := by have := hgrow.size; simpa using this
  refine ⟨h.ul.push hrow hcap (fun p hp => ⟨(hf p hp).2, fun e => by have := hv _ e; have := (hf p hp).1; omega⟩) hown hgrow hat, fun b hb => ?_, fun y hy p hp => ?_, ⟨h.hbd.1, by have := h.hbd.2; omega⟩, ?_, h.ul.belowW h.bel hB hgrow⟩
  · rcases hat with e | e
    · rw [e] at hb; exact h.nb b hb
    · rw [e] at hb; simp at hb; have := h.hbd.2; omega
  · rcases List.mem_append.1 hy with hm | hm
    · exact h.nr y hm p hp
    · obtain rfl : y = x := by simpa using hm
      have := (hf p hp).1; omega
  · exact owns_keeps h.dn (((Keeps.refl (fun b => v.ownBlock = some b) wr).alloc o).trans (Keeps.of_grown hgrow (fun b hb => hb))) (fun b hb e => by cases hb; exact h.nb _ e rfl)
def ByRet (w : World) (wd : Nat) (o : Option (List (List Int))) (e : Ending) (w' : World) : Prop :=
  (o = none ∧ e = .returned (.tuple #[.pointer none, .bool false]) ∧ Below w.heap.size w w') ∨
  ∃ L p, o = some L ∧ e = .returned (.tuple #[.pointer p, .bool true]) ∧ Seg w' p wd (relOf wd L) ∧ Below w.heap.size w w'
theorem by_no {w : World} {p : Option Addr} (k col : Int) (ka : Option Addr) (kn kc wd : Nat) (ce : Calls Tryd.prog 28 #[.int .i64 k, .pointer p, .int .i64 col] w (ElNo w)) :
    Calls Tryd.prog 13 #[.pointer p, .slice ka kn kc, .int .i64 k, .int .i64 col] w (ByRet w wd none) := by
  go_enter Tryd.func13, Tryd.ntmps13
  go_wp2_with fail
  refine ce.mono ?_
  rintro e w1 ⟨v, rfl, hb⟩
  have HB := Lib.hid hb
  clear hb
  go_wp2_with fail
  go_ret2
  exact .inl ⟨rfl, rfl, HB.out⟩
theorem listTake {rows : List Nat} {el : List Int} {m r : Nat} (hm : rows[m]? = some r) : (rows.take (m + 1)).map (fun j => at0 el j) = (rows.take m).map (fun j => at0 el j) ++ [at0 el r] := by
  have hl : m < rows.length := (List.getElem?_eq_some_iff.1 hm).1
  rw [List.take_succ_eq_append_getElem hl, (List.getElem?_eq_some_iff.1 hm).2, List.map_append]; rfl
theorem ints_at {rows : List Nat} {m r : Nat} (hm : rows[m]? = some r) : (ints rows)[m]?.getD 0 = (r : Int) := by simp [ints, hm]
set_option maxRecDepth 100000 in
set_option maxHeartbeats 4000000 in
theorem by_calls {w : World} {p : Option Addr} {wd : Nat} {rs : List (List Int)} (h : Seg w p wd rs) (ka : Option Addr) (kc : Nat) (keys : List Int) (hk : Row w ka keys) (hkl : keys.length ≤ 900) (hkz : InR keys) (hwd : wd ≤ 900) (hrs : rs.length ≤ 1000) (k col : Int) (el : List Int) (hel : el.length = rs.length) (hez : InR el)
    (ce : Calls Tryd.prog 28 #[.int .i64 k, .pointer p, .int .i64 col] w (ElRet w el)) :
    Calls Tryd.prog 13 #[.pointer p, .slice ka keys.length kc, .int .i64 k, .int .i64 col] w (ByRet w ((validP wd keys).length + 1) (madeTo (rs.map fun r => keyL r keys) el k rs.length)) := by
  obtain ⟨i0, hi0, hz0, hz1, hz2⟩ := info_parts info22
  obtain ⟨i1, hi1, hy0, hy1, hy2⟩ := info_parts info4
  obtain ⟨i2, hi2, hx0, hx1, hx2⟩ := info_parts info2
  have I := Lib.hid hi0
  have Z0 := Lib.hid hz0
  have Z1 := Lib.hid hz1
  have Z2 := Lib.hid hz2
  have J := Lib.hid hi1
  have Y0 := Lib.hid hy0
  have Y1 := Lib.hid hy1
  have Y2 := Lib.hid hy2
  have I' := Lib.hid hi2
  have Z0' := Lib.hid hx0
  have Z1' := Lib.hid hx1
  have Z2' := Lib.hid hx2
  clear hi0 hz0 hz1 hz2 hi1 hy0 hy1 hy2 hi2 hx0 hx1 hx2
  have HS0 := Lib.hid h
  have HK0 := Lib.hid hk
  have HKZ := Lib.hid hkz
  have HEZ := Lib.hid hez
  have WR : Hid (∀ r ∈ rs, r.length = wd) := Lib.hid h.2.1
  clear h hk hkz hez
  go_enter Tryd.func13, Tryd.ntmps13
  go_wp2_with fail
  refine ce.mono ?_
  rintro e w1 ⟨ea, ec, rfl, hr1, hb1⟩
  have HE1 := Lib.hid hr1
  have HB1 := Lib.hid hb1
  have cb := build_calls (HS0.out.below hb1) ka kc keys (HK0.out.below hb1) (by omega) (by omega) hrs
  clear hr1 hb1 ce
  go_wp2_with fail
  refine cb.mono ?_
  rintro e X ⟨g, rfl, hx, hb2⟩
  have HX := Lib.hid hx
  have HBX : Hid (Below w.heap.size w X) := Lib.hid (HB1.out.trans (hb2.mono HB1.out.size))
  have HS := Lib.hid (HS0.out.below HBX.out)
  have HK := Lib.hid (HK0.out.below HBX.out)
  have HE := Lib.hid (HE1.out.below hb2)
  have cln := ix_len hx
  have hdst : dst (rs.map fun r => keyL r keys) ≤ 1000 := Nat.le_trans (dst_le _) (by simp; exact hrs)
  clear hx hb2 cb HS0 HK0 HE1 HB1
  have KL : Hid ((rs.map fun r => keyL r keys).length = rs.length) := Lib.hid (by simp)
  have KY : Hid (∀ i, i < rs.length → kyAt (rs.map fun r => keyL r keys) i = keyL (rowAt rs i) keys) := Lib.hid (fun i hi => kyAt_map hi)
  have KV : Hid (∀ κ ∈ (rs.map fun r => keyL r keys), κ.length = (validP wd keys).length) := Lib.hid (fun κ hκ => by
    obtain ⟨r, hr, rfl⟩ := List.mem_map.1 hκ
    rw [keyL_valid, WR.out r hr])
  generalize hky : (rs.map fun r => keyL r keys) = kys at *
  have HKY := Lib.hid hky
  clear hky
  generalize dst kys = cnt at *
  obtain ⟨B, hB⟩ : ∃ B, X.heap.size = B := ⟨_, rfl⟩
  have HB := Lib.hid hB
  clear hB
  go_wp2_with fail
  refine cln.mono ?_
  rintro e w' ⟨rfl, rfl⟩
  clear cln
  go_wp2_with (first | (refine wpList_make_own _ rfl _ _ 32 rfl B 22 i0 (.slice none 0 0) 1 Tryd.underlying32 I.out Z0.out Z1.out .i64 .i64 _ cnt rfl rfl ?m0 ?m1 ?m2 ?m3 ?_))
  case m0 => rfl
  case m1 => rw [Z2.out]; omega
  case m2 => unfold maxLen; omega
  case m3 => rw [HB.out]; exact Nat.le_refl _
  intro w2 hown hgrow
  have U2 := Lib.hid (show UL B w2 (.slice (some ⟨X.heap.size, 0, none⟩) 0 cnt) [] from ⟨hown, fun x hx => by cases hx⟩)
  have B2 : Hid (Below B X w2) := Lib.hid (grown_below hgrow (Nat.le_of_eq HB.out.symm))
  have S2 : B < w2.heap.size := by have := (hown.lt _ rfl).2; rw [HB.out] at this; exact this
  clear hown hgrow
  have E0 : Hid (∀ b, (Value.slice (some ⟨X.heap.size, 0, none⟩) 0 cnt).ownBlock = some b → b = B) := Lib.hid (fun b hb => by cases hb; exact HB.out)
  generalize Value.slice (some ⟨X.heap.size, 0, none⟩) 0 cnt = v0 at *
  have cl2 := segLen_calls (HS.out.belowB HB.out B2.out)
  go_wp2_with fail
  refine cl2.mono ?_
  rintro e w' ⟨rfl, rfl⟩
  clear cl2
  go_wp2_with (first | (refine wpList_make_full _ rfl _ _ 60 rfl B 4 i1 (.bool false) 1 Tryd.underlying60 J.out Y0.out Y1.out .i64 .i64 _ _ rs.length rfl rfl rfl rfl ?n1 ?n2 ?n3 ?_))
  case n1 => rw [Y2.out]; omega
  case n2 => unfold maxLen; omega
  case n3 => omega
  intro w3 hown hgrow
  obtain ⟨bd, hbd⟩ : ∃ bd, w2.heap.size = bd := ⟨_, rfl⟩
  rw [hbd] at hown ⊢
  have S3 : bd < w3.heap.size := (hown.lt _ rfl).2
  have G3 : Hid (GB B bd rs.length X w3 v0 [] (List.replicate rs.length false)) := Lib.hid ⟨U2.out.below (grown_below hgrow (Nat.le_refl _)), fun b hb => by have := E0.out b hb; omega, (fun x hx => by cases hx), ⟨by omega, S3⟩, by rw [← made_bools]; simpa using hown, B2.out.trans (grown_below hgrow (by omega))⟩
  clear hown hgrow U2 B2 E0 S2 hbd
  have cl3 := segLen_calls (HS.out.belowB HB.out G3.out.bel)
  go_wp2_with fail
  refine cl3.mono ?_
  rintro e w' ⟨rfl, rfl⟩
  clear cl3
  go_wp2_with fail
  go_loopw [42, 13] (fun s v wr => ∃ (i : Nat) (L : List RV) (ds : List Bool), i ≤ rs.length ∧ s = .int .i64 i ∧ ds.length = rs.length ∧ Hid (GB B bd rs.length X wr v L ds) ∧ Hid (DS kys rs.length i [] 0 ds) ∧ Hid (madeTo kys el k i = some (L.map (·.2.1)))) (fun s _ _ => rs.length - (intOf s).toNat)
  case atStart => exact ⟨0, [], _, Nat.zero_le _, rfl, List.length_replicate, G3, Lib.hid (DS.start _ _), Lib.hid rfl⟩
  case round =>
    obtain ⟨i, L, ds, hi, rfl, hdl, HG, HD, HM⟩ := hrel
    clear G3 S3
    have hBr : B ≤ wr.heap.size := by have := HG.out.bel.size; rw [HB.out] at this; exact this
    by_cases hlt : i < rs.length
    · have dc := HG.out.dn.cellAt i (by omega)
      have hmap : (ds.map Value.bool)[i]? = some (.bool (ds[i]?.getD false)) := by rw [List.getElem?_map, List.getElem?_eq_getElem (by omega)]; rfl
      rw [hmap] at dc
      have HDi := Lib.hid (HD.out.2 i hlt)
      clear hmap
      cases hdi : ds[i]?.getD false with
      | true =>
        rw [hdi] at dc
        have HIN : Hid (kyAt kys i ∈ kys.take i) := Lib.hid (by have := HDi.out.1 hdi; simpa using this)
        have D2 := Lib.hid (HD.out.skip (by rw [KL.out]; omega) HIN.out)
        have M2 : Hid (madeTo kys el k (i + 1) = some (L.map (·.2.1))) := Lib.hid (by rw [made_skip HIN.out]; exact HM.out)
        clear hdi
        go_wp2_with fail
        go_roundw
        case rel => exact ⟨i + 1, L, ds, by omega, by go_num, hdl, HG, D2, M2⟩
        case measure => simp [intOf]; omega
      | false =>
        rw [hdi] at dc
        have HIN : Hid (¬ kyAt kys i ∈ kys.take i) := Lib.hid (fun hin => by have := HDi.out.2 (.inl hin); rw [hdi] at this; cases this)
        clear hdi HDi
        obtain ⟨wo, rfl⟩ : ∃ x, x = wr := ⟨wr, rfl⟩
        have HVM : Hid (∀ b, u13.ownBlock = some b → b < wo.heap.size) := Lib.hid (fun b hb => (HG.out.ul.own.lt b hb).2)
        have HRM : Hid (∀ x ∈ L, ∀ p, x.1 = some p → p.block < wo.heap.size) := Lib.hid (fun x hx p hp => ((HG.out.ul.rows x hx).2 p hp).1)
        have hbM : bd < wo.heap.size := HG.out.hbd.2
        have cr := segRowF_calls (HS.out.belowB HB.out HG.out.bel) i hlt (by omega) (by omega)
        have RL : Hid ((rowAt rs i).length = wd) := Lib.hid (WR.out _ (rowAt_mem hlt))
        have KI : Hid (keyL (rowAt rs i) keys = kyAt kys i) := Lib.hid (KY.out i hlt).symm
        have KB : Hid ((kyAt kys i).length ≤ 900) := Lib.hid (by rw [← KI.out]; exact Nat.le_trans (keyL_len _ _) hkl)
        go_wp2_with fail
        refine cr.mono ?_
        rintro e w4 ⟨ra, rc, rfl, hr4, _, _, hb4⟩
        have HG4 := Lib.hid (HG.out.below hBr hb4)
        have ck := keyO_calls ra ka rc kc (rowAt rs i) keys w4 hr4 (HK.out.belowB HB.out HG4.out.bel) (by rw [RL.out]; omega) (by omega)
        rw [KI.out] at ck
        have HB4 := Lib.hid hb4
        clear hr4 hb4 cr dc
        go_wp2_with fail
        refine ck.mono ?_
        rintro e w5 ⟨vk, rfl, hk5, hb5⟩
        have hB4 : B ≤ w4.heap.size := by have := HG4.out.bel.size; rw [HB.out] at this; exact this
        have HG5 := Lib.hid (HG4.out.below hB4 hb5)
        have HK5 := Lib.hid hk5
        obtain ⟨D, hD⟩ : ∃ D, w4.heap.size = D := ⟨_, rfl⟩
        have hDM : wo.heap.size ≤ D := by have := HB4.out.size; omega
        rw [hD] at HK5
        have HKN : Hid (∀ b, vk.ownBlock = some b → wo.heap.size ≤ b) := Lib.hid (fun b hb => by have := (HK5.out.lt b hb).1; omega)
        have hD5 : D ≤ w5.heap.size := by have := hb5.size; omega
        have HB5 : Hid (Below wo.heap.size wo w5) := Lib.hid (HB4.out.trans (hb5.mono HB4.out.size))
        obtain ⟨ya, yc, hye, hyr⟩ := row_of_owns hk5
        have hKB := KB.out
        have cp := ix_probeF (HX.out.belowB HB.out HG5.out.bel) ya yc (kyAt kys i) hyr (by omega)
        have HYE := Lib.hid hye
        clear hk5 hb5 ck hyr
        rw [hye]
        clear hye
        go_wp2_with fail
        refine cp.mono ?_
        rintro e w6 ⟨pa, pc, rfl, hr6, _, hf6, hb6⟩
        have HPN : Hid (∀ q, pa = some q → q.block ≠ bd) := Lib.hid (fun q hq e => by have h1 := (hf6 q hq).1; have h2 := HG5.out.hbd.2; omega)
        clear hf6
        have hB5 : B ≤ w5.heap.size := by have := HG5.out.bel.size; rw [HB.out] at this; exact this
        have HG6 := Lib.hid (HG5.out.below hB5 hb6)
        have HP6 := Lib.hid hr6
        have HK6 := Lib.hid (owns_keeps HK5.out (Keeps.of_below (N := fun _ => False) hb6) (fun _ _ h => h))
        have HB6 : Hid (Below wo.heap.size wo w6) := Lib.hid (HB5.out.trans (hb6.mono HB5.out.size))
        have HRW : Hid (∀ r ∈ rowsOf kys (kyAt kys i), r < rs.length) := Lib.hid (fun r hr => by have := (mem_rowsTo.1 hr).1; rw [KL.out] at this; exact this)
        have hPL : (rowsOf kys (kyAt kys i)).length ≤ 1000 := by
          have h9 : (rowsOf kys (kyAt kys i)).length ≤ kys.length := rowsTo_len kys (kyAt kys i) kys.length
          rw [KL.out] at h9; exact Nat.le_trans h9 hrs
        have HLO : Hid (listOf kys el (kyAt kys i) = (rowsOf kys (kyAt kys i)).map fun j => at0 el j) := Lib.hid rfl
        have hD6 : D ≤ w6.heap.size := by have := hb6.size; omega
        clear hD
        clear hr6 hb6 cp HK5 HB5 HB4 HG5 HG4
        have HDE := Lib.hid (HD.out.enter (rowsOf kys (kyAt kys i)))
        have HDN := Lib.hid (fun (ds' : List Bool) (h : DS kys rs.length i (rowsOf kys (kyAt kys i)) (rowsOf kys (kyAt kys i)).length ds') => h.done KL.out.symm hlt (Nat.le_refl _))
        rw [ints_len] 
        generalize hro : rowsOf kys (kyAt kys i) = rows at *
        clear hro
        obtain ⟨C, hC⟩ : ∃ C, w6.heap.size = C := ⟨_, rfl⟩
        have HC := Lib.hid hC
        have hB6 : B ≤ C := by have := HG6.out.bel.size; rw [HB.out, hC] at this; exact this
        have hbdC : bd < C := by have := HG6.out.hbd.2; rw [hC] at this; exact this
        clear hC
        go_wp2_with fail
        go_loopw [58, 17] (fun s v wv => ∃ (m : Nat) (ds' : List Bool), m ≤ rows.length ∧ s = .int .i64 m ∧ ds'.length = rs.length ∧ Hid (wv.ownsRow C 2 1 v ((rows.take m).map (fun j => at0 el j)).length (((rows.take m).map (fun j => at0 el j)).map (Value.int .i64))) ∧ Hid (wv.ownsRow B 4 1 (.slice (some ⟨bd, 0, none⟩) rs.length rs.length) rs.length (ds'.map Value.bool)) ∧ Hid (DS kys rs.length i rows m ds') ∧ Hid (Keeps (fun b => b = bd) w6 wv)) (fun s _ _ => rows.length - (intOf s).toNat)
        case atStart => exact ⟨0, ds, Nat.zero_le _, rfl, hdl, Lib.hid (World.ownsRow_nil _ _ _ _), Lib.hid HG6.out.dn, HDE, Lib.hid (Keeps.refl _ _)⟩
        case round =>
          obtain ⟨m, ds', hm, rfl, hdl', HL, HDV, HDS, HKP⟩ := hrel
          have hCr : C ≤ wr.heap.size := by have := HKP.out.size; rw [HC.out] at this; exact this
          have HBV : Hid (Below B X wr) := Lib.hid (HG6.out.bel.trans (HKP.out.below (by rw [HC.out]; exact hB6) (fun b e => by rw [e]; exact HG6.out.hbd.1)))
          by_cases hml : m < rows.length
          · obtain ⟨r, hr⟩ : ∃ r, rows[m]? = some r := ⟨_, List.getElem?_eq_getElem hml⟩
            have hrn : r < rs.length := HRW.out r (by rw [List.getElem?_eq_getElem hml] at hr; cases hr; exact List.getElem_mem hml)
            obtain ⟨b7, off7, rfl, hb7, hc7⟩ := (HP6.out.keeps HKP.out (fun q hq e => HPN.out q hq e)).at (k := m) (by rw [ints_len]; exact hml)
            rw [ints_at hr] at hc7
            have dc := HDV.out.cellAt r (by omega)
            have df := HDV.out.frozenAt r
            have hmap : (ds'.map Value.bool)[r]? = some (.bool (ds'[r]?.getD false)) := by rw [List.getElem?_map, List.getElem?_eq_getElem (by omega)]; rfl
            rw [hmap] at dc
            clear hmap
            generalize ds'[r]?.getD false = od at *
            have D8 := Lib.hid (HDS.out.set hr hrn)
            have ST := HDV.out.stored r (.bool true)
            have O8 : Hid ((wr.setCell ⟨bd, r, none⟩ (.bool true)).ownsRow B 4 1 (.slice (some ⟨bd, 0, none⟩) rs.length rs.length) rs.length ((ds'.set r true).map Value.bool)) := Lib.hid (by rw [List.map_set]; exact ST.1)
            have K1 : Keeps (fun b => b = bd) wr (wr.setCell ⟨bd, r, none⟩ (.bool true)) := (Keeps.refl (fun b => b = bd) wr).setCell (N := fun b => b = bd) (p := ⟨bd, r, none⟩) rfl _
            have L8 := Lib.hid (owns_keeps HL.out K1 (fun b hb e => by have := (HL.out.lt b hb).1; omega))
            have K8 : Hid (Keeps (fun b => b = bd) w6 (wr.setCell ⟨bd, r, none⟩ (.bool true))) := Lib.hid (HKP.out.trans K1)
            have S8 : C ≤ (wr.setCell ⟨bd, r, none⟩ (.bool true)).heap.size := by simp; exact hCr
            have B8 : Below B X (wr.setCell ⟨bd, r, none⟩ (.bool true)) := HBV.out.setCell (p := ⟨bd, r, none⟩) HG6.out.hbd.1 _
            obtain ⟨b8, off8, rfl, hb8, hc8⟩ := (HE.out.belowB HB.out B8).at (k := r) (by omega)
            have LT := Lib.hid (listTake (el := el) hr)
            have E8 : Hid (at0 el r = el[r]?.getD 0) := Lib.hid rfl
            rw [← E8.out] at hc8
            have LL : ((rows.take m).map (fun j => at0 el j)).length ≤ 1000 := by simp; omega
            generalize at0 el r = y at *
            generalize (rows.take m).map (fun j => at0 el j) = ys at *
            clear ST K1 B8 hr E8
            have q1 : (r : Int) < (rs.length : Int) := by omega
            have q2 : (0 : Int) ≤ (r : Int) := by omega
            have q3 : (r : Int) < (el.length : Int) := by omega
            go_wp2_with (first | (at_builtin; refine wpList_append_own _ rfl _ _ 22 rfl C 2 i2 (.int .i64 0) 1 8 Tryd.underlying22 I'.out Z0'.out Z1'.out Z2'.out rfl (by decide) _ _ _ rfl (L8.out.alloc _) ⟨wr.heap.size, 0, none⟩ 1 1 [.int .i64 y] rfl rfl ?c1 ?c2 ?c3 ?c4 ?c5 ?_))
            case c1 => have h9 := cell_one_new (wr.setCell ⟨bd, r, none⟩ (.bool true)) (.int .i64 y) 2; simpa using h9
            case c2 => intro u hu; simp at hu; subst hu; rfl
            case c3 => unfold maxLen; omega
            case c4 => omega
            case c5 => simp; omega
            intro v' w9 hown' hgrow _
            have O9 : Hid (w9.ownsRow B 4 1 (.slice (some ⟨bd, 0, none⟩) rs.length rs.length) rs.length ((ds'.set r true).map Value.bool)) := Lib.hid (owns_keeps (N := fun b => u17.ownBlock = some b) O8.out (((Keeps.refl (fun b => u17.ownBlock = some b) _).alloc _).trans (Keeps.of_grown hgrow (fun b hb => hb))) (fun b hb e => by cases hb; have := (HL.out.lt bd e).1; omega))
            have K9 : Hid (Keeps (fun b => b = bd) w6 w9) := Lib.hid ⟨by rw [hgrow.os]; exact K8.out.os, by rw [hgrow.tape]; exact K8.out.tape, by rw [hgrow.output]; exact K8.out.output, by have h8 := K8.out.size; have h9 := hgrow.size; simp at h8 h9; omega, fun b hb hn => by
              have h1 := K8.out.block b hb hn
              rw [← h1]
              have hb2 : b < (wr.setCell ⟨bd, r, none⟩ (.bool true)).heap.size := by have := K8.out.size; omega
              exact (((Keeps.refl (fun b => u17.ownBlock = some b) _).alloc _).trans (Keeps.of_grown hgrow (fun b hb => hb))).block b hb2 (fun e => by have := (HL.out.lt b e).1; rw [HC.out] at hb; omega)⟩
            have L9 : Hid (w9.ownsRow C 2 1 v' (ys ++ [y]).length ((ys ++ [y]).map (Value.int .i64))) := Lib.hid (by rw [List.map_append, List.length_append]; exact hown')
            rw [← LT.out] at L9
            clear hown' hgrow hc7 dc df hc8
            go_wp2_with fail
            go_roundw
            case rel => exact ⟨m + 1, ds'.set r true, by omega, by go_num, by rw [List.length_set]; exact hdl', L9, O9, D8, K9⟩
            case measure => simp [intOf]; omega
          · have hfin := HL.out
            rw [List.take_of_length_le (by omega), ← HLO.out] at hfin
            have D9 := Lib.hid (HDN.out ds' (by have := HDS.out; rwa [show m = rows.length by omega] at this))
            have HLL : Hid ((listOf kys el (kyAt kys i)).length ≤ 1000) := Lib.hid (by rw [HLO.out]; simp; exact hPL)
            have HLZ : Hid (InR (listOf kys el (kyAt kys i))) := Lib.hid (fun z hz => by
              rw [HLO.out] at hz
              obtain ⟨j, hj, rfl⟩ := List.mem_map.1 hz
              exact at_mem HEZ.out j)
            obtain ⟨la, lc, hle, hlr⟩ := row_of_owns hfin
            have cm := make_agg k la lc (listOf kys el (kyAt kys i)) wr hlr HLL.out HLZ.out
            have G9 := Lib.hid (HG6.out.turned (by rw [HC.out]; exact hB6) HKP.out HDV.out)
            have K9 := Lib.hid (owns_keeps HK6.out HKP.out (fun b hb e => by have := HKN.out b hb; omega))
            rw [HYE.out] at K9 HKN
            have hD9 : D ≤ wr.heap.size := by have := HKP.out.size; omega
            rw [hle]
            clear hfin hlr hle HL HDV HDS HP6 HDE HDN
            have HKB := KB.out
            cases hok : okOf (mkOf k (listOf kys el (kyAt kys i))) with
            | false =>
              rw [hok] at cm
              have HF : Hid (madeTo kys el k rs.length = none) := Lib.hid (made_none (made_stop HIN.out (ok_none hok).1) (by omega))
              clear hok
              go_wp2_with fail
              refine cm.mono ?_
              rintro e w' ⟨rfl, rfl⟩
              clear cm
              go_wp2_with fail
              go_ret2
              rw [HKY.out]
              exact .inl ⟨HF.out, rfl, HBX.out.trans (G9.out.bel.mono (by have := HBX.out.size; rw [HB.out] at this; exact this))⟩
            | true =>
              rw [hok] at cm
              have HV := Lib.hid (ok_some hok)
              have M9 := Lib.hid (made_step HIN.out HM.out HV.out)
              clear hok HV
              generalize vOf (mkOf k (listOf kys el (kyAt kys i))) = y at *
              go_wp2_with fail
              refine cm.mono ?_
              rintro e w' ⟨rfl, rfl⟩
              clear cm
              obtain ⟨κ, hκ⟩ : ∃ κ, kyAt kys i = κ := ⟨_, rfl⟩
              rw [hκ] at K9 HKN M9 HKB ⊢
              clear hκ
              go_wp2_with (first | (at_builtin; refine wpList_append_own _ rfl _ _ 22 rfl D 2 i2 (.int .i64 0) 1 8 Tryd.underlying22 I'.out Z0'.out Z1'.out Z2'.out rfl (by decide) _ _ _ rfl (K9.out.alloc _) ⟨wr.heap.size, 0, none⟩ 1 1 [.int .i64 y] rfl rfl ?e1 ?e2 ?e3 ?e4 ?e5 ?_))
              case e1 => exact cell_one_new wr _ _
              case e2 => intro u hu; simp at hu; subst hu; rfl
              case e3 => unfold maxLen; omega
              case e4 => omega
              case e5 => simp; omega
              intro v' w10 hown' hgrow _
              have hown2 : w10.ownsRow D 2 1 v' (κ ++ [y]).length ((κ ++ [y]).map (Value.int .i64)) := by rw [List.map_append, List.length_append]; exact hown'
              obtain ⟨a10, c10, rfl, hr10, hc10, hf10⟩ := fresh_of_owns hown2
              have s10 : wr.heap.size + 1 ≤ w10.heap.size := by have := hgrow.size; simpa using this
              have hBM : B ≤ wo.heap.size := hBr
              have G10 := Lib.hid (G9.out.off HVM.out HRM.out hbM hBM (by omega) ((((Keeps.refl (fun b => wo.heap.size ≤ b) wr).alloc _).trans (Keeps.of_grown hgrow (fun b hb => HKN.out b hb)))))
              have R10 := Lib.hid hr10
              have F10 : Hid (∀ p, a10 = some p → wo.heap.size ≤ p.block ∧ p.block < w10.heap.size) := Lib.hid (fun p hp => by have := hf10 p hp; omega)
              obtain ⟨κ2, hκ2⟩ : ∃ κ2, κ ++ [y] = κ2 := ⟨_, rfl⟩
              rw [hκ2] at R10 hc10 M9 ⊢
              have hLl : L.length ≤ 1000 := by have h1 := madeR_len HM.out; rw [List.length_map] at h1; omega
              clear hown' hown2 hgrow hr10 hf10 hκ2 K9 HKN
              go_wp2_with (first | (at_builtin; refine wpList_append_own_at _ rfl _ _ 32 rfl B 22 i0 (.slice none 0 0) 1 24 Tryd.underlying32 I.out Z0.out Z1.out Z2.out rfl (by decide) _ _ _ rfl (G10.out.ul.own.alloc _) ⟨w10.heap.size, 0, none⟩ 1 1 [.slice a10 κ2.length c10] rfl rfl ?f1 ?f2 ?f3 ?f4 ?f5 ?_))
              case f1 => exact cell_one_new w10 _ _
              case f2 => intro u hu; simp at hu; subst hu; rfl
              case f3 => unfold maxLen; omega
              case f4 => omega
              case f5 => simp; omega
              intro v2 w11 hown hgrow _ hat
              have G11 := Lib.hid (G10.out.push (x := (a10, κ2, c10)) HVM.out hbM (by omega) R10.out hc10 F10.out hown hgrow (by simpa using hat))
              clear hown hgrow hat
              go_wp2_with fail
              go_roundw
              case rel => exact ⟨i + 1, L ++ [(a10, κ2, c10)], ds', by omega, by go_num, hdl', G11, D9, Lib.hid (by rw [M9.out, List.map_append]; rfl)⟩
              case measure => simp [intOf]; omega
    · obtain rfl : i = rs.length := by omega
      have hLl : L.length ≤ 1000 := by have h1 := madeR_len HM.out; rw [List.length_map] at h1; omega
      obtain ⟨ua, uc, rfl, hRR⟩ := HG.out.ul.rrow
      have VL : (validP wd keys).length ≤ 900 := Nat.le_trans (validP_len wd keys) hkl
      have wide : ∀ x ∈ L, x.2.1.length ≤ 1000000 := fun x hx => by
        obtain ⟨κ, hκ, v, e⟩ := madeR_rows (by rw [KL.out]; exact Nat.le_refl _) HM.out x.2.1 (List.mem_map_of_mem hx)
        rw [e, List.length_append, KV.out κ hκ]; simp; omega
      have ckw := keyWidth_calls (HS.out.belowB HB.out HG.out.bel) ka kc keys (HK.out.belowB HB.out HG.out.bel) (by omega) (by omega) HKZ.out
      have cm := make_calls ((validP wd keys).length + 1) ua uc L wr hRR (by omega) hLl wide
      have HBF : Hid (Below w.heap.size w wr) := Lib.hid (HBX.out.trans (HG.out.bel.mono (by have := HBX.out.size; rw [HB.out] at this; exact this)))
      clear hRR wide HD HG
      go_wp2_with fail
      refine ckw.mono ?_
      rintro e w' ⟨rfl, rfl⟩
      clear ckw
      go_wp2_with fail
      refine cm.mono ?_
      rintro e wz ⟨q, rfl, hs, hb⟩
      have SZ := Lib.hid hs
      have BZ := Lib.hid hb
      clear hs hb cm
      go_wp2_with fail
      go_ret2
      rw [HKY.out]
      exact .inr ⟨_, _, HM.out, rfl, SZ.out, HBF.out.trans (BZ.out.mono HBF.out.size)⟩
end Go.Proofs.YtcecndjkfdaaaaaDoor
