/- The contract of Piece.Token: a token and how it is written. Written by mktk.py. -/
import Derived.Test.YtecijhaclbbccaaDoorLxY
namespace Go.Proofs.YtecijhaclbbccaaDoor
open Go.RowKit
set_option linter.unusedVariables false
set_option linter.unusedSimpArgs false

def TokRet (w : World) (t : Tk) (x : Bytes) (e : Ending) (w' : World) : Prop := e = .returned (.tuple #[.agg #[.int .i64 t.kind, .string t.text, .int .u64 t.num, .int .i64 t.at'], .string ⟨x.toArray⟩]) ∧ Below w.heap.size w w'
theorem tbox (w : World) (A : Array Value) (T : TypeId) : zbox ((w.alloc (.cells A T)).alloc (.cells #[.int .i64 0, .string ⟨#[]⟩, .int .u64 0, .int .i64 0] 31)) (w.heap.size + 1) := by
  have := zbox_new (w.alloc (.cells A T))
  rwa [show (w.alloc (.cells A T)).heap.size = w.heap.size + 1 by simp] at this
theorem rbox3 (w : World) (a c : Obj) (y0 y1 y2 y3 : Value) : (((w.alloc a).alloc (.cells #[y0, y1, y2, y3] 31)).alloc c).heap[w.heap.size + 1]? = some (.cells #[y0, y1, y2, y3] 31 (0, 0)) := by
  have h1 : ((w.alloc a).alloc (.cells #[y0, y1, y2, y3] 31)).heap[w.heap.size + 1]? = some (.cells #[y0, y1, y2, y3] 31 (0, 0)) := by
    have := heap_alloc_new (w.alloc a) (.cells #[y0, y1, y2, y3] 31)
    rwa [show (w.alloc a).heap.size = w.heap.size + 1 by simp] at this
  exact (((Below.refl _ _).alloc (Nat.le_refl _) c).block _ (Array.getElem?_eq_some_iff.1 h1).1).trans h1
theorem below2 (w : World) (a b : Obj) : Below w.heap.size w ((w.alloc a).alloc b) := ((Below.refl w.heap.size w).alloc (Nat.le_refl _) a).alloc (by simp) b
theorem below3 (w : World) (a b c : Obj) : Below w.heap.size w (((w.alloc a).alloc b).alloc c) := (below2 w a b).alloc (by simp; omega) c
set_option maxRecDepth 100000 in
set_option maxHeartbeats 1000000 in
theorem tok_name (K N Gp : Int) (w : World) (hk : uN K % 5 = 0) : Calls Tryd.prog 10 #[.agg #[.int .i64 K, .int .i64 N, .int .i64 Gp]] w (TokRet w ⟨1, ⟨(nameT.getD (uN N % 6) []).toArray⟩, 0, 0⟩ (nameT.getD (uN N % 6) [])) := by
  have k5 : wrap64 ((IntKind.u64.wrap K).tmod 5) = 0 := by have := urem K 5 (by omega) (by omega); rw [hk] at this; exact this
  have hr := urem N 6 (by omega) (by omega)
  have hj : uN N % 6 < 6 := Nat.mod_lt _ (by omega)
  generalize uN N % 6 = j at *
  have n6 : wrap64 ((IntKind.u64.wrap N).tmod 6) = (j : Int) := hr
  have HC := name_cells ((w.alloc (.cells #[.int .i64 K, .int .i64 N, .int .i64 Gp] 27)).alloc (.cells #[.int .i64 0, .string ⟨#[]⟩, .int .u64 0, .int .i64 0] 31)) hj
  have HZ : zbox (((w.alloc (.cells #[.int .i64 K, .int .i64 N, .int .i64 Gp] 27)).alloc (.cells #[.int .i64 0, .string ⟨#[]⟩, .int .u64 0, .int .i64 0] 31)).alloc (.cells #[.string ⟨#[112]⟩, .string ⟨#[101, 100, 103, 101]⟩, .string ⟨#[110, 111, 116]⟩, .string ⟨#[109, 105, 110]⟩, .string ⟨#[120, 95, 49]⟩, .string ⟨#[97, 66]⟩] 9)) (w.heap.size + 1) := (tbox w _ 27).below ((Below.refl _ _).alloc (Nat.le_refl _) _)
  obtain ⟨c0, c1, c2, c3, cf⟩ := cells4 HZ
  have BB := below3 w (.cells #[.int .i64 K, .int .i64 N, .int .i64 Gp] 27) (.cells #[.int .i64 0, .string ⟨#[]⟩, .int .u64 0, .int .i64 0] 31) (.cells #[.string ⟨#[112]⟩, .string ⟨#[101, 100, 103, 101]⟩, .string ⟨#[110, 111, 116]⟩, .string ⟨#[109, 105, 110]⟩, .string ⟨#[120, 95, 49]⟩, .string ⟨#[97, 66]⟩] 9)
  obtain ⟨tx, htx⟩ : ∃ tx : ByteArray, (⟨(nameT.getD j []).toArray⟩ : ByteArray) = tx := ⟨_, rfl⟩
  have HT := Lib.hid htx
  have R1 := Lib.hid (below_set4 (y0 := .int .i64 1) (y1 := .string tx) (y2 := .int .u64 0) (y3 := .int .i64 0) BB (show w.heap.size ≤ w.heap.size + 1 by omega))
  have E1 := Lib.hid (heap_set4 (y0 := .int .i64 1) (y1 := .string tx) (y2 := .int .u64 0) (y3 := .int .i64 0) HZ)
  rw [htx] at HC ⊢
  rw [show ((w.alloc (.cells #[.int .i64 K, .int .i64 N, .int .i64 Gp] 27)).alloc (.cells #[.int .i64 0, .string ⟨#[]⟩, .int .u64 0, .int .i64 0] 31)).heap.size = w.heap.size + 2 by simp] at HC
  clear hr BB htx HZ
  go_enter Tryd.func10, Tryd.ntmps10
  go_wp2_with fail
  obtain ⟨d0, d1, d2, d3, _⟩ := cells4 (rbox3 w (.cells #[.int .i64 K, .int .i64 N, .int .i64 Gp] 27) (.cells #[.string ⟨#[112]⟩, .string ⟨#[101, 100, 103, 101]⟩, .string ⟨#[110, 111, 116]⟩, .string ⟨#[109, 105, 110]⟩, .string ⟨#[120, 95, 49]⟩, .string ⟨#[97, 66]⟩] 9) (.int .i64 1) (.string tx) (.int .u64 0) (.int .i64 0))
  refine bodyPost_ret (v := .tuple #[.agg #[.int .i64 1, .string tx, .int .u64 0, .int .i64 0], .string tx]) ?_ rfl ⟨by rw [HT.out], below3 w _ _ _⟩
  simp [results, Tryd.results10, go_sem, d0, d1, d2, d3]
set_option maxRecDepth 100000 in
set_option maxHeartbeats 1000000 in
theorem tok_var (K N Gp : Int) (w : World) (hk : uN K % 5 = 1) : Calls Tryd.prog 10 #[.agg #[.int .i64 K, .int .i64 N, .int .i64 Gp]] w (TokRet w ⟨2, ⟨(varT.getD (uN N % 6) []).toArray⟩, 0, 0⟩ (varT.getD (uN N % 6) [])) := by
  have k5 : wrap64 ((IntKind.u64.wrap K).tmod 5) = 1 := by have := urem K 5 (by omega) (by omega); rw [hk] at this; exact this
  have hr := urem N 6 (by omega) (by omega)
  have hj : uN N % 6 < 6 := Nat.mod_lt _ (by omega)
  generalize uN N % 6 = j at *
  have n6 : wrap64 ((IntKind.u64.wrap N).tmod 6) = (j : Int) := hr
  have HC := var_cells ((w.alloc (.cells #[.int .i64 K, .int .i64 N, .int .i64 Gp] 27)).alloc (.cells #[.int .i64 0, .string ⟨#[]⟩, .int .u64 0, .int .i64 0] 31)) hj
  have HZ : zbox (((w.alloc (.cells #[.int .i64 K, .int .i64 N, .int .i64 Gp] 27)).alloc (.cells #[.int .i64 0, .string ⟨#[]⟩, .int .u64 0, .int .i64 0] 31)).alloc (.cells #[.string ⟨#[88]⟩, .string ⟨#[89, 49]⟩, .string ⟨#[67, 111, 115, 116]⟩, .string ⟨#[65, 95, 98]⟩, .string ⟨#[90]⟩, .string ⟨#[81, 57]⟩] 9)) (w.heap.size + 1) := (tbox w _ 27).below ((Below.refl _ _).alloc (Nat.le_refl _) _)
  obtain ⟨c0, c1, c2, c3, cf⟩ := cells4 HZ
  have BB := below3 w (.cells #[.int .i64 K, .int .i64 N, .int .i64 Gp] 27) (.cells #[.int .i64 0, .string ⟨#[]⟩, .int .u64 0, .int .i64 0] 31) (.cells #[.string ⟨#[88]⟩, .string ⟨#[89, 49]⟩, .string ⟨#[67, 111, 115, 116]⟩, .string ⟨#[65, 95, 98]⟩, .string ⟨#[90]⟩, .string ⟨#[81, 57]⟩] 9)
  obtain ⟨tx, htx⟩ : ∃ tx : ByteArray, (⟨(varT.getD j []).toArray⟩ : ByteArray) = tx := ⟨_, rfl⟩
  have HT := Lib.hid htx
  have R1 := Lib.hid (below_set4 (y0 := .int .i64 2) (y1 := .string tx) (y2 := .int .u64 0) (y3 := .int .i64 0) BB (show w.heap.size ≤ w.heap.size + 1 by omega))
  have E1 := Lib.hid (heap_set4 (y0 := .int .i64 2) (y1 := .string tx) (y2 := .int .u64 0) (y3 := .int .i64 0) HZ)
  rw [htx] at HC ⊢
  rw [show ((w.alloc (.cells #[.int .i64 K, .int .i64 N, .int .i64 Gp] 27)).alloc (.cells #[.int .i64 0, .string ⟨#[]⟩, .int .u64 0, .int .i64 0] 31)).heap.size = w.heap.size + 2 by simp] at HC
  clear hr BB htx HZ
  go_enter Tryd.func10, Tryd.ntmps10
  go_wp2_with fail
  obtain ⟨d0, d1, d2, d3, _⟩ := cells4 (rbox3 w (.cells #[.int .i64 K, .int .i64 N, .int .i64 Gp] 27) (.cells #[.string ⟨#[88]⟩, .string ⟨#[89, 49]⟩, .string ⟨#[67, 111, 115, 116]⟩, .string ⟨#[65, 95, 98]⟩, .string ⟨#[90]⟩, .string ⟨#[81, 57]⟩] 9) (.int .i64 2) (.string tx) (.int .u64 0) (.int .i64 0))
  refine bodyPost_ret (v := .tuple #[.agg #[.int .i64 2, .string tx, .int .u64 0, .int .i64 0], .string tx]) ?_ rfl ⟨by rw [HT.out], below3 w _ _ _⟩
  simp [results, Tryd.results10, go_sem, d0, d1, d2, d3]
set_option maxRecDepth 100000 in
set_option maxHeartbeats 1000000 in
theorem tok_num5 (K N Gp : Int) (w : World) (hk : uN K % 5 = 2) (h5 : uN N % 6 = 5) : Calls Tryd.prog 10 #[.agg #[.int .i64 K, .int .i64 N, .int .i64 Gp]] w (TokRet w ⟨3, ⟨#[]⟩, numOf (uN N), 0⟩ (digT (numOf (uN N)))) := by
  have k5 : wrap64 ((IntKind.u64.wrap K).tmod 5) = 2 := by have := urem K 5 (by omega) (by omega); rw [hk] at this; exact this
  have hr := urem N 6 (by omega) (by omega)
  have hj : uN N % 6 < 6 := Nat.mod_lt _ (by omega)
  have hno : numOf (uN N) = 9223372036854775808 := by unfold numOf; rw [if_pos h5]
  generalize hjj : uN N % 6 = j at *
  have n6 : wrap64 ((IntKind.u64.wrap N).tmod 6) = (j : Int) := hr
  have t5 : ((j : Int) == 5) = true := by rw [h5]; rfl
  have hle := numOf_le (uN_lt N)
  have ND := Lib.hid (uN_eq N)
  generalize numOf (uN N) = m at *
  have cd := fun W => digits_calls m hle W
  obtain ⟨tx, htx⟩ : ∃ tx : ByteArray, (⟨(digT m).toArray⟩ : ByteArray) = tx := ⟨_, rfl⟩
  have HT := Lib.hid htx
  simp only [htx] at cd
  have hv : IntKind.u64.wrap N / 2 = ((uN N / 2 : Nat) : Int) := by rw [ND.out]; omega
  subst hno
  have HV := Lib.hid hv
  clear hv
  skip
  clear hr htx
  have HZ0 := Lib.hid (tbox w #[.int .i64 K, .int .i64 N, .int .i64 Gp] 27)
  have B0 := Lib.hid (below2 w (.cells #[.int .i64 K, .int .i64 N, .int .i64 Gp] 27) (.cells #[.int .i64 0, .string ⟨#[]⟩, .int .u64 0, .int .i64 0] 31))
  have SZ0 : Hid (w.heap.size ≤ ((w.alloc (.cells #[.int .i64 K, .int .i64 N, .int .i64 Gp] 27)).alloc (.cells #[.int .i64 0, .string ⟨#[]⟩, .int .u64 0, .int .i64 0] 31)).heap.size) := Lib.hid (by simp; omega)
  go_enter Tryd.func10, Tryd.ntmps10
  go_wp2_with fail
  skip
  refine (cd _).mono ?_
  generalize World.alloc (World.alloc w _) _ = W0 at *
  rintro e w1 ⟨rfl, hb1⟩
  have HZ1 := HZ0.out.below hb1
  have BB := B0.out.trans (hb1.mono SZ0.out)
  obtain ⟨c0, c1, c2, c3, cf⟩ := cells4 HZ1
  have R1 := Lib.hid (below_set4 (y0 := .int .i64 3) (y1 := .string ⟨#[]⟩) (y2 := .int .u64 9223372036854775808) (y3 := .int .i64 0) BB (show w.heap.size ≤ w.heap.size + 1 by omega))
  have E1 := Lib.hid (heap_set4 (y0 := .int .i64 3) (y1 := .string ⟨#[]⟩) (y2 := .int .u64 9223372036854775808) (y3 := .int .i64 0) HZ1)
  clear HZ1 BB hb1
  go_wp2_with fail
  obtain ⟨d0, d1, d2, d3, _⟩ := cells4 E1.out
  refine bodyPost_ret (v := .tuple #[.agg #[.int .i64 3, .string ⟨#[]⟩, .int .u64 9223372036854775808, .int .i64 0], .string tx]) ?_ rfl ⟨by rw [HT.out]; rfl, R1.out⟩
  simp [results, Tryd.results10, go_sem, d0, d1, d2, d3]
set_option maxRecDepth 100000 in
set_option maxHeartbeats 1000000 in
theorem tok_num (K N Gp : Int) (w : World) (hk : uN K % 5 = 2) (h5 : ¬ uN N % 6 = 5) : Calls Tryd.prog 10 #[.agg #[.int .i64 K, .int .i64 N, .int .i64 Gp]] w (TokRet w ⟨3, ⟨#[]⟩, numOf (uN N), 0⟩ (digT (numOf (uN N)))) := by
  have k5 : wrap64 ((IntKind.u64.wrap K).tmod 5) = 2 := by have := urem K 5 (by omega) (by omega); rw [hk] at this; exact this
  have hr := urem N 6 (by omega) (by omega)
  have hj : uN N % 6 < 6 := Nat.mod_lt _ (by omega)
  have hno : numOf (uN N) = uN N / 2 := by unfold numOf; rw [if_neg h5]
  generalize hjj : uN N % 6 = j at *
  have n6 : wrap64 ((IntKind.u64.wrap N).tmod 6) = (j : Int) := hr
  have t5 : ((j : Int) == 5) = false := by exact beq_eq_false_iff_ne.2 (by omega)
  have hle := numOf_le (uN_lt N)
  have ND := Lib.hid (uN_eq N)
  generalize numOf (uN N) = m at *
  have cd := fun W => digits_calls m hle W
  obtain ⟨tx, htx⟩ : ∃ tx : ByteArray, (⟨(digT m).toArray⟩ : ByteArray) = tx := ⟨_, rfl⟩
  have HT := Lib.hid htx
  simp only [htx] at cd
  have hv : IntKind.u64.wrap N / 2 = ((uN N / 2 : Nat) : Int) := by rw [ND.out]; omega
  rw [← hno] at hv
  have HV := Lib.hid hv
  clear hv
  clear hno
  clear hr htx
  have HZ0 := Lib.hid (tbox w #[.int .i64 K, .int .i64 N, .int .i64 Gp] 27)
  have B0 := Lib.hid (below2 w (.cells #[.int .i64 K, .int .i64 N, .int .i64 Gp] 27) (.cells #[.int .i64 0, .string ⟨#[]⟩, .int .u64 0, .int .i64 0] 31))
  have SZ0 : Hid (w.heap.size ≤ ((w.alloc (.cells #[.int .i64 K, .int .i64 N, .int .i64 Gp] 27)).alloc (.cells #[.int .i64 0, .string ⟨#[]⟩, .int .u64 0, .int .i64 0] 31)).heap.size) := Lib.hid (by simp; omega)
  go_enter Tryd.func10, Tryd.ntmps10
  go_wp2_with fail
  rw [HV.out]
  refine (cd _).mono ?_
  generalize World.alloc (World.alloc w _) _ = W0 at *
  rintro e w1 ⟨rfl, hb1⟩
  have HZ1 := HZ0.out.below hb1
  have BB := B0.out.trans (hb1.mono SZ0.out)
  obtain ⟨c0, c1, c2, c3, cf⟩ := cells4 HZ1
  have R1 := Lib.hid (below_set4 (y0 := .int .i64 3) (y1 := .string ⟨#[]⟩) (y2 := .int .u64 (m : Int)) (y3 := .int .i64 0) BB (show w.heap.size ≤ w.heap.size + 1 by omega))
  have E1 := Lib.hid (heap_set4 (y0 := .int .i64 3) (y1 := .string ⟨#[]⟩) (y2 := .int .u64 (m : Int)) (y3 := .int .i64 0) HZ1)
  clear HZ1 BB hb1
  go_wp2_with fail
  obtain ⟨d0, d1, d2, d3, _⟩ := cells4 E1.out
  refine bodyPost_ret (v := .tuple #[.agg #[.int .i64 3, .string ⟨#[]⟩, .int .u64 (m : Int), .int .i64 0], .string tx]) ?_ rfl ⟨by rw [HT.out], R1.out⟩
  simp [results, Tryd.results10, go_sem, d0, d1, d2, d3]
set_option maxRecDepth 100000 in
set_option maxHeartbeats 1000000 in
theorem tok_str (K N Gp : Int) (w : World) (hk : uN K % 5 = 3) : Calls Tryd.prog 10 #[.agg #[.int .i64 K, .int .i64 N, .int .i64 Gp]] w (TokRet w ⟨4, ⟨(strT.getD (uN N % 6) []).toArray⟩, 0, 0⟩ (quoteT (strT.getD (uN N % 6) []))) := by
  have k5 : wrap64 ((IntKind.u64.wrap K).tmod 5) = 3 := by have := urem K 5 (by omega) (by omega); rw [hk] at this; exact this
  have hr := urem N 6 (by omega) (by omega)
  have hj : uN N % 6 < 6 := Nat.mod_lt _ (by omega)
  generalize uN N % 6 = j at *
  have n6 : wrap64 ((IntKind.u64.wrap N).tmod 6) = (j : Int) := hr
  have HC := str_cells ((w.alloc (.cells #[.int .i64 K, .int .i64 N, .int .i64 Gp] 27)).alloc (.cells #[.int .i64 0, .string ⟨#[]⟩, .int .u64 0, .int .i64 0] 31)) hj
  have HZ : zbox (((w.alloc (.cells #[.int .i64 K, .int .i64 N, .int .i64 Gp] 27)).alloc (.cells #[.int .i64 0, .string ⟨#[]⟩, .int .u64 0, .int .i64 0] 31)).alloc (.cells #[.string ⟨#[]⟩, .string ⟨#[97, 32, 98]⟩, .string ⟨#[34]⟩, .string ⟨#[92]⟩, .string ⟨#[120, 10, 121]⟩, .string ⟨#[195, 169, 35]⟩] 9)) (w.heap.size + 1) := (tbox w _ 27).below ((Below.refl _ _).alloc (Nat.le_refl _) _)
  obtain ⟨c0, c1, c2, c3, cf⟩ := cells4 HZ
  have hsz : (strT.getD j []).length ≤ 3 := (str_fine j hj).2
  obtain ⟨tx, htx⟩ : ∃ tx : ByteArray, (⟨(strT.getD j []).toArray⟩ : ByteArray) = tx := ⟨_, rfl⟩
  have HT := Lib.hid htx
  have HQ : Hid ((⟨(quoteT (strT.getD j [])).toArray⟩ : ByteArray) = qT tx) := Lib.hid (by rw [← htx]; unfold qT bs; rfl)
  have htz : tx.size ≤ 3 := by rw [← htx]; exact hsz
  have cq := fun W => lawQuote_calls tx W (by omega)
  rw [htx] at HC ⊢
  rw [show ((w.alloc (.cells #[.int .i64 K, .int .i64 N, .int .i64 Gp] 27)).alloc (.cells #[.int .i64 0, .string ⟨#[]⟩, .int .u64 0, .int .i64 0] 31)).heap.size = w.heap.size + 2 by simp] at HC
  clear hr htx HZ hsz
  go_enter Tryd.func10, Tryd.ntmps10
  go_wp2_with fail
  refine (cq _).mono ?_
  rintro e w' ⟨rfl, rfl⟩
  go_wp2_with fail
  obtain ⟨d0, d1, d2, d3, _⟩ := cells4 (rbox3 w (.cells #[.int .i64 K, .int .i64 N, .int .i64 Gp] 27) (.cells #[.string ⟨#[]⟩, .string ⟨#[97, 32, 98]⟩, .string ⟨#[34]⟩, .string ⟨#[92]⟩, .string ⟨#[120, 10, 121]⟩, .string ⟨#[195, 169, 35]⟩] 9) (.int .i64 4) (.string tx) (.int .u64 0) (.int .i64 0))
  refine bodyPost_ret (v := .tuple #[.agg #[.int .i64 4, .string tx, .int .u64 0, .int .i64 0], .string (qT tx)]) ?_ rfl ⟨by rw [HQ.out], below3 w _ _ _⟩
  simp [results, Tryd.results10, go_sem, d0, d1, d2, d3]
end Go.Proofs.YtecijhaclbbccaaDoor
