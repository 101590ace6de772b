/- Signs and words of the tables; the statement's predicates and terms. Written by mksy2.py. -/
import Derived.Test.YtaglbeokecbihaaDoorSy1
namespace Go.Proofs.YtaglbeokecbihaaDoor
open Go.RowKit
set_option linter.unusedVariables false
set_option linter.unusedSimpArgs false

set_option maxRecDepth 100000 in
theorem colSign_calls (i : Nat) (hi : i < 6) (w : World) (hw : STab w) : Calls Tryd.prog 43 #[.int .i64 i] w fun e w' => e = .returned (.string (colS i)) ∧ w = w' := by
  have hc := hw.col i hi
  have t1 : decide ((i : Int) < 0) = false := decide_eq_false (by omega)
  have t2 : decide ((6 : Int) ≤ (i : Int)) = false := decide_eq_false (by omega)
  have hs := hw.sz
  clear hw
  go_enter Tryd.func43, Tryd.ntmps43
  go_wp2_with fail
  go_ret
  exact ⟨rfl, rfl⟩
set_option maxRecDepth 100000 in
theorem ariSign_calls (i : Nat) (hi : i < 5) (w : World) (hw : STab w) : Calls Tryd.prog 45 #[.int .i64 i] w fun e w' => e = .returned (.string (ariS i)) ∧ w = w' := by
  have hc := hw.ari i hi
  have t1 : decide ((i : Int) < 0) = false := decide_eq_false (by omega)
  have t2 : decide ((5 : Int) ≤ (i : Int)) = false := decide_eq_false (by omega)
  have hs := hw.sz
  clear hw
  go_enter Tryd.func45, Tryd.ntmps45
  go_wp2_with fail
  go_ret
  exact ⟨rfl, rfl⟩
set_option maxRecDepth 100000 in
theorem aggWord_calls (i : Nat) (hi : i < 5) (w : World) (hw : STab w) : Calls Tryd.prog 49 #[.int .i64 i] w fun e w' => e = .returned (.string (wrdS i)) ∧ w = w' := by
  have hc := hw.wrd i hi
  have t1 : decide ((i : Int) < 0) = false := decide_eq_false (by omega)
  have t2 : decide ((5 : Int) ≤ (i : Int)) = false := decide_eq_false (by omega)
  have hs := hw.sz
  clear hw
  go_enter Tryd.func49, Tryd.ntmps49
  go_wp2_with fail
  go_ret
  exact ⟨rfl, rfl⟩
/-- A number taken as one without a sign. -/
def uN (x : Int) : Nat := (IntKind.u64.wrap x).toNat
theorem uN_lt (x : Int) : uN x < 18446744073709551616 := by unfold uN; rw [IntKind.wrap_u64]; omega
theorem uN_eq (x : Int) : IntKind.u64.wrap x = (uN x : Int) := by unfold uN; rw [IntKind.wrap_u64]; omega
theorem urem (x : Int) (k : Nat) (hk : 0 < k) (hk2 : k ≤ 1000) : wrap64 ((IntKind.u64.wrap x).tmod (k : Int)) = ((uN x % k : Nat) : Int) := by
  rw [uN_eq, Int.tmod_eq_emod_of_nonneg (by omega)]
  have h : ((uN x : Int) % (k : Int)) = ((uN x % k : Nat) : Int) := by omega
  rw [h]
  have := Nat.mod_lt (uN x) hk
  unfold wrap64; omega
theorem uN_small (n : Nat) (h : n < 1000) : uN (n : Int) = n := by unfold uN; rw [IntKind.wrap_u64]; omega
def predL : List Bytes := [[112], [113], [114], [101, 100, 103, 101], [112, 97, 116, 104], [115]]
def predS (i : Nat) : ByteArray := ⟨(predL.getD i []).toArray⟩
theorem predS_size : ∀ i, i < 6 → (predS i).size ≤ 5 := by decide
set_option maxRecDepth 100000 in
theorem pred_cells (W : World) {j : Nat} (hj : j < 6) : (W.alloc (.cells #[.string ⟨#[112]⟩, .string ⟨#[113]⟩, .string ⟨#[114]⟩, .string ⟨#[101, 100, 103, 101]⟩, .string ⟨#[112, 97, 116, 104]⟩, .string ⟨#[115]⟩] 9)).cell? ⟨W.heap.size, j, none⟩ = some (.string (predS j)) := by
  rw [World.cell?_alloc_at _ _ _ _ rfl]
  have h : j = 0 ∨ j = 1 ∨ j = 2 ∨ j = 3 ∨ j = 4 ∨ j = 5 := by omega
  rcases h with rfl | rfl | rfl | rfl | rfl | rfl <;> rfl
def varL : List Bytes := [[88], [89], [90], [87], [67, 111, 115, 116], [86, 49]]
def varS (i : Nat) : ByteArray := ⟨(varL.getD i []).toArray⟩
theorem varS_size : ∀ i, i < 6 → (varS i).size ≤ 5 := by decide
set_option maxRecDepth 100000 in
theorem var_cells (W : World) {j : Nat} (hj : j < 6) : (W.alloc (.cells #[.string ⟨#[88]⟩, .string ⟨#[89]⟩, .string ⟨#[90]⟩, .string ⟨#[87]⟩, .string ⟨#[67, 111, 115, 116]⟩, .string ⟨#[86, 49]⟩] 9)).cell? ⟨W.heap.size, j, none⟩ = some (.string (varS j)) := by
  rw [World.cell?_alloc_at _ _ _ _ rfl]
  have h : j = 0 ∨ j = 1 ∨ j = 2 ∨ j = 3 ∨ j = 4 ∨ j = 5 := by omega
  rcases h with rfl | rfl | rfl | rfl | rfl | rfl <;> rfl
def symL : List Bytes := [[97], [98], [110, 111, 116], [65, 32, 98], [109, 105, 110], [120, 10, 34, 121, 92]]
def symS (i : Nat) : ByteArray := ⟨(symL.getD i []).toArray⟩
theorem symS_size : ∀ i, i < 6 → (symS i).size ≤ 5 := by decide
set_option maxRecDepth 100000 in
theorem sym_cells (W : World) {j : Nat} (hj : j < 6) : (W.alloc (.cells #[.string ⟨#[97]⟩, .string ⟨#[98]⟩, .string ⟨#[110, 111, 116]⟩, .string ⟨#[65, 32, 98]⟩, .string ⟨#[109, 105, 110]⟩, .string ⟨#[120, 10, 34, 121, 92]⟩] 9)).cell? ⟨W.heap.size, j, none⟩ = some (.string (symS j)) := by
  rw [World.cell?_alloc_at _ _ _ _ rfl]
  have h : j = 0 ∨ j = 1 ∨ j = 2 ∨ j = 3 ∨ j = 4 ∨ j = 5 := by omega
  rcases h with rfl | rfl | rfl | rfl | rfl | rfl <;> rfl
set_option maxRecDepth 100000 in
set_option maxHeartbeats 1000000 in
theorem pred_calls (n : Int) (w : World) : Calls Tryd.prog 33 #[.int .i64 n] w (StrRet w (predS (uN n % 6))) := by
  have hr := urem n 6 (by omega) (by omega)
  have hj : uN n % 6 < 6 := Nat.mod_lt _ (by omega)
  generalize uN n % 6 = j at *
  have hr2 : wrap64 ((IntKind.u64.wrap n).tmod 6) = (j : Int) := hr
  have HC := pred_cells w hj
  have B1 := Lib.hid ((Below.refl w.heap.size w).alloc (Nat.le_refl _) (.cells #[.string ⟨#[112]⟩, .string ⟨#[113]⟩, .string ⟨#[114]⟩, .string ⟨#[101, 100, 103, 101]⟩, .string ⟨#[112, 97, 116, 104]⟩, .string ⟨#[115]⟩] 9))
  clear hr
  generalize predS j = t at *
  go_enter Tryd.func33, Tryd.ntmps33
  go_wp2_with fail
  go_ret
  exact ⟨rfl, B1.out⟩
/-- The term that is made of three numbers. -/
def tmM (K N G : Int) : Tm :=
  if uN K % 4 ≤ 1 then ⟨0, varS (uN N % 6), 0⟩
  else if uN K % 4 = 2 then ⟨1, ⟨#[]⟩, if bits .and .i64 N 64 = 64 then G else ((uN N % 6 : Nat) : Int) - 2⟩
  else ⟨2, symS (uN N % 6), 0⟩
theorem tmM_ok (K N G : Int) (h0 : -9223372036854775808 ≤ G) (h1 : G ≤ 9223372036854775807) : TmOK (tmM K N G) := by
  have hj : uN N % 6 < 6 := Nat.mod_lt _ (by omega)
  have e1 : (-9223372036854775808 : Int) ≤ ((uN N % 6 : Nat) : Int) - 2 := by omega
  have e2 : ((uN N % 6 : Nat) : Int) - 2 ≤ 9223372036854775807 := by omega
  unfold tmM
  split
  · exact ⟨.inl rfl, by show (-9223372036854775808 : Int) ≤ 0; omega, by show (0 : Int) ≤ _; omega, by have := varS_size _ hj; show (varS _).size ≤ 20; omega⟩
  · split
    · refine ⟨.inr (.inl rfl), ?_, ?_, by show (0 : Nat) ≤ 20; omega⟩
      · show _ ≤ (if _ then _ else _ : Int); split
        · exact h0
        · exact e1
      · show (if _ then _ else _ : Int) ≤ _; split
        · exact h1
        · exact e2
    · exact ⟨.inr (.inr rfl), by show (-9223372036854775808 : Int) ≤ 0; omega, by show (0 : Int) ≤ _; omega, by have := symS_size _ hj; show (symS _).size ≤ 20; omega⟩
def TmRet (w : World) (t : Tm) (e : Ending) (w' : World) : Prop := e = .returned (.agg #[.int .i64 t.kind, .string t.text, .int .i64 t.n]) ∧ Below w.heap.size w w'
theorem cells3 {w : World} {g : Nat} {a b c : Value} {T : TypeId} (h : w.heap[g]? = some (.cells #[a, b, c] T (0, 0))) : w.cell? ⟨g, 0, none⟩ = some a ∧ w.cell? ⟨g, 1, none⟩ = some b ∧ w.cell? ⟨g, 2, none⟩ = some c ∧ ∀ i, w.frozen? ⟨g, i, none⟩ = false :=
  ⟨by simp [World.cell?, h], by simp [World.cell?, h], by simp [World.cell?, h], fun i => by simp [World.frozen?, h]⟩
theorem rbox3 (w : World) (a c : Obj) (y0 y1 y2 : Value) (T : TypeId) : (((w.alloc a).alloc (.cells #[y0, y1, y2] T)).alloc c).heap[w.heap.size + 1]? = some (.cells #[y0, y1, y2] T (0, 0)) := by
  have h1 : ((w.alloc a).alloc (.cells #[y0, y1, y2] T)).heap[w.heap.size + 1]? = some (.cells #[y0, y1, y2] T (0, 0)) := by
    have := heap_alloc_new (w.alloc a) (.cells #[y0, y1, y2] T)
    rwa [show (w.alloc a).heap.size = w.heap.size + 1 by simp] at this
  exact (((Below.refl _ _).alloc (Nat.le_refl _) c).block _ (Array.getElem?_eq_some_iff.1 h1).1).trans h1
theorem rbox2 (w : World) (a : Obj) (y0 y1 y2 : Value) (T : TypeId) : ((w.alloc a).alloc (.cells #[y0, y1, y2] T)).heap[w.heap.size + 1]? = some (.cells #[y0, y1, y2] T (0, 0)) := by
  have := heap_alloc_new (w.alloc a) (.cells #[y0, y1, y2] T)
  rwa [show (w.alloc a).heap.size = w.heap.size + 1 by simp] at this
theorem below2 (w : World) (a b : Obj) : Below w.heap.size w ((w.alloc a).alloc b) := ((Below.refl w.heap.size w).alloc (Nat.le_refl _) a).alloc (by simp) b
theorem below3 (w : World) (a b c : Obj) : Below w.heap.size w (((w.alloc a).alloc b).alloc c) := (below2 w a b).alloc (by simp; omega) c
set_option maxRecDepth 100000 in
set_option maxHeartbeats 1000000 in
theorem term_v0 (K N G : Int) (w : World) (hk : uN K % 4 = 0) : Calls Tryd.prog 11 #[.agg #[.int .i64 K, .int .i64 N, .int .i64 G]] w (TmRet w ⟨0, varS (uN N % 6), 0⟩) := by
  have k5 : wrap64 ((IntKind.u64.wrap K).tmod 4) = 0 := by have := urem K 4 (by omega) (by omega); rw [hk] at this; exact this
  have hr := urem N 6 (by omega) (by omega)
  have hj : uN N % 6 < 6 := Nat.mod_lt _ (by omega)
  generalize uN N % 6 = j at *
  have n6 : wrap64 ((IntKind.u64.wrap N).tmod 6) = (j : Int) := hr
  have HC := var_cells ((w.alloc (.cells #[.int .i64 K, .int .i64 N, .int .i64 G] 32)).alloc (.cells #[.int .i64 0, .string ⟨#[]⟩, .int .i64 0] 44)) hj
  rw [show ((w.alloc (.cells #[.int .i64 K, .int .i64 N, .int .i64 G] 32)).alloc (.cells #[.int .i64 0, .string ⟨#[]⟩, .int .i64 0] 44)).heap.size = w.heap.size + 2 by simp] at HC
  generalize varS j = tx at *
  clear hr
  go_enter Tryd.func11, Tryd.ntmps11
  go_wp2_with fail
  obtain ⟨d0, d1, d2, _⟩ := cells3 (rbox3 w (.cells #[.int .i64 K, .int .i64 N, .int .i64 G] 32) (.cells #[.string ⟨#[88]⟩, .string ⟨#[89]⟩, .string ⟨#[90]⟩, .string ⟨#[87]⟩, .string ⟨#[67, 111, 115, 116]⟩, .string ⟨#[86, 49]⟩] 9) (.int .i64 0) (.string tx) (.int .i64 0) 44)
  refine bodyPost_ret (v := .agg #[.int .i64 0, .string tx, .int .i64 0]) ?_ rfl ⟨rfl, below3 w _ _ _⟩
  simp [results, Tryd.results11, go_sem, d0, d1, d2]
set_option maxRecDepth 100000 in
set_option maxHeartbeats 1000000 in
theorem term_v1 (K N G : Int) (w : World) (hk : uN K % 4 = 1) : Calls Tryd.prog 11 #[.agg #[.int .i64 K, .int .i64 N, .int .i64 G]] w (TmRet w ⟨0, varS (uN N % 6), 0⟩) := by
  have k5 : wrap64 ((IntKind.u64.wrap K).tmod 4) = 1 := by have := urem K 4 (by omega) (by omega); rw [hk] at this; exact this
  have hr := urem N 6 (by omega) (by omega)
  have hj : uN N % 6 < 6 := Nat.mod_lt _ (by omega)
  generalize uN N % 6 = j at *
  have n6 : wrap64 ((IntKind.u64.wrap N).tmod 6) = (j : Int) := hr
  have HC := var_cells ((w.alloc (.cells #[.int .i64 K, .int .i64 N, .int .i64 G] 32)).alloc (.cells #[.int .i64 0, .string ⟨#[]⟩, .int .i64 0] 44)) hj
  rw [show ((w.alloc (.cells #[.int .i64 K, .int .i64 N, .int .i64 G] 32)).alloc (.cells #[.int .i64 0, .string ⟨#[]⟩, .int .i64 0] 44)).heap.size = w.heap.size + 2 by simp] at HC
  generalize varS j = tx at *
  clear hr
  go_enter Tryd.func11, Tryd.ntmps11
  go_wp2_with fail
  obtain ⟨d0, d1, d2, _⟩ := cells3 (rbox3 w (.cells #[.int .i64 K, .int .i64 N, .int .i64 G] 32) (.cells #[.string ⟨#[88]⟩, .string ⟨#[89]⟩, .string ⟨#[90]⟩, .string ⟨#[87]⟩, .string ⟨#[67, 111, 115, 116]⟩, .string ⟨#[86, 49]⟩] 9) (.int .i64 0) (.string tx) (.int .i64 0) 44)
  refine bodyPost_ret (v := .agg #[.int .i64 0, .string tx, .int .i64 0]) ?_ rfl ⟨rfl, below3 w _ _ _⟩
  simp [results, Tryd.results11, go_sem, d0, d1, d2]
set_option maxRecDepth 100000 in
set_option maxHeartbeats 1000000 in
theorem term_s (K N G : Int) (w : World) (hk : uN K % 4 = 3) : Calls Tryd.prog 11 #[.agg #[.int .i64 K, .int .i64 N, .int .i64 G]] w (TmRet w ⟨2, symS (uN N % 6), 0⟩) := by
  have k5 : wrap64 ((IntKind.u64.wrap K).tmod 4) = 3 := by have := urem K 4 (by omega) (by omega); rw [hk] at this; exact this
  have hr := urem N 6 (by omega) (by omega)
  have hj : uN N % 6 < 6 := Nat.mod_lt _ (by omega)
  generalize uN N % 6 = j at *
  have n6 : wrap64 ((IntKind.u64.wrap N).tmod 6) = (j : Int) := hr
  have HC := sym_cells ((w.alloc (.cells #[.int .i64 K, .int .i64 N, .int .i64 G] 32)).alloc (.cells #[.int .i64 0, .string ⟨#[]⟩, .int .i64 0] 44)) hj
  rw [show ((w.alloc (.cells #[.int .i64 K, .int .i64 N, .int .i64 G] 32)).alloc (.cells #[.int .i64 0, .string ⟨#[]⟩, .int .i64 0] 44)).heap.size = w.heap.size + 2 by simp] at HC
  generalize symS j = tx at *
  clear hr
  go_enter Tryd.func11, Tryd.ntmps11
  go_wp2_with fail
  obtain ⟨d0, d1, d2, _⟩ := cells3 (rbox3 w (.cells #[.int .i64 K, .int .i64 N, .int .i64 G] 32) (.cells #[.string ⟨#[97]⟩, .string ⟨#[98]⟩, .string ⟨#[110, 111, 116]⟩, .string ⟨#[65, 32, 98]⟩, .string ⟨#[109, 105, 110]⟩, .string ⟨#[120, 10, 34, 121, 92]⟩] 9) (.int .i64 2) (.string tx) (.int .i64 0) 44)
  refine bodyPost_ret (v := .agg #[.int .i64 2, .string tx, .int .i64 0]) ?_ rfl ⟨rfl, below3 w _ _ _⟩
  simp [results, Tryd.results11, go_sem, d0, d1, d2]
set_option maxRecDepth 100000 in
set_option maxHeartbeats 1000000 in
theorem term_big (K N G : Int) (w : World) (hk : uN K % 4 = 2) (h64 : bits .and .i64 N 64 = 64) : Calls Tryd.prog 11 #[.agg #[.int .i64 K, .int .i64 N, .int .i64 G]] w (TmRet w ⟨1, ⟨#[]⟩, G⟩) := by
  have k5 : wrap64 ((IntKind.u64.wrap K).tmod 4) = 2 := by have := urem K 4 (by omega) (by omega); rw [hk] at this; exact this
  have hr := urem N 6 (by omega) (by omega)
  have hj : uN N % 6 < 6 := Nat.mod_lt _ (by omega)
  generalize uN N % 6 = j at *
  have n6 : wrap64 ((IntKind.u64.wrap N).tmod 6) = (j : Int) := hr
  have w2 : IntKind.i64.wrap ((j : Int) - 2) = (j : Int) - 2 := by rw [IntKind.wrap_i64]; omega
  skip
  clear hr
  go_enter Tryd.func11, Tryd.ntmps11
  go_wp2_with fail
  obtain ⟨d0, d1, d2, _⟩ := cells3 (rbox2 w (.cells #[.int .i64 K, .int .i64 N, .int .i64 G] 32) (.int .i64 1) (.string ⟨#[]⟩) (.int .i64 G) 44)
  refine bodyPost_ret (v := .agg #[.int .i64 1, .string ⟨#[]⟩, .int .i64 G]) ?_ rfl ⟨rfl, below2 w _ _⟩
  simp [results, Tryd.results11, go_sem, d0, d1, d2]
set_option maxRecDepth 100000 in
set_option maxHeartbeats 1000000 in
theorem term_n (K N G : Int) (w : World) (hk : uN K % 4 = 2) (h64 : ¬ bits .and .i64 N 64 = 64) : Calls Tryd.prog 11 #[.agg #[.int .i64 K, .int .i64 N, .int .i64 G]] w (TmRet w ⟨1, ⟨#[]⟩, (((uN N % 6 : Nat) : Int) - 2)⟩) := by
  have k5 : wrap64 ((IntKind.u64.wrap K).tmod 4) = 2 := by have := urem K 4 (by omega) (by omega); rw [hk] at this; exact this
  have hr := urem N 6 (by omega) (by omega)
  have hj : uN N % 6 < 6 := Nat.mod_lt _ (by omega)
  generalize uN N % 6 = j at *
  have n6 : wrap64 ((IntKind.u64.wrap N).tmod 6) = (j : Int) := hr
  have w2 : IntKind.i64.wrap ((j : Int) - 2) = (j : Int) - 2 := by rw [IntKind.wrap_i64]; omega
  have t64 : (bits .and .i64 N 64 == 64) = false := beq_eq_false_iff_ne.2 h64
  clear hr
  go_enter Tryd.func11, Tryd.ntmps11
  go_wp2_with fail
  obtain ⟨d0, d1, d2, _⟩ := cells3 (rbox2 w (.cells #[.int .i64 K, .int .i64 N, .int .i64 G] 32) (.int .i64 1) (.string ⟨#[]⟩) (.int .i64 ((j : Int) - 2)) 44)
  refine bodyPost_ret (v := .agg #[.int .i64 1, .string ⟨#[]⟩, .int .i64 ((j : Int) - 2)]) ?_ rfl ⟨rfl, below2 w _ _⟩
  simp [results, Tryd.results11, go_sem, d0, d1, d2]
/-- T.Term. -/
theorem term_calls (K N G : Int) (w : World) : Calls Tryd.prog 11 #[.agg #[.int .i64 K, .int .i64 N, .int .i64 G]] w (TmRet w (tmM K N G)) := by
  have hK : uN K % 4 < 4 := Nat.mod_lt _ (by omega)
  unfold tmM
  by_cases h0 : uN K % 4 = 0
  · rw [if_pos (by omega)]; exact term_v0 K N G w h0
  by_cases h1 : uN K % 4 = 1
  · rw [if_pos (by omega)]; exact term_v1 K N G w h1
  rw [if_neg (by omega)]
  by_cases h2 : uN K % 4 = 2
  · rw [if_pos h2]
    by_cases h6 : bits .and .i64 N 64 = 64
    · rw [if_pos h6]; exact term_big K N G w h2 h6
    · rw [if_neg h6]; exact term_n K N G w h2 h6
  · rw [if_neg h2]; exact term_s K N G w (by omega)
end Go.Proofs.YtaglbeokecbihaaDoor
