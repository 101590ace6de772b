/- The statement FaultWords, walked. -/
import Derived.Test.YtfcjiiogigfjkaaDoorLaw01
namespace Go.Proofs.YtfcjiiogigfjkaaDoor
open Go.RowKit Go.Extern.Stop Go.Stop Go.Extern
set_option linter.unusedVariables false

def wordCells : Array Value := #[.string ⟨#[110, 111, 110, 101]⟩, .string ⟨#[115, 121, 110, 116, 97, 120]⟩, .string ⟨#[100, 101, 101, 112]⟩, .string ⟨#[109, 97, 110, 121]⟩, .string ⟨#[97, 114, 105, 116, 121]⟩, .string ⟨#[116, 121, 112, 101]⟩, .string ⟨#[117, 110, 115, 97, 102, 101]⟩, .string ⟨#[99, 121, 99, 108, 101]⟩, .string ⟨#[97, 100, 109, 105, 116]⟩, .string ⟨#[117, 110, 107, 110, 111, 119, 110]⟩, .string ⟨#[97, 114, 105, 116, 104]⟩, .string ⟨#[102, 117, 101, 108]⟩, .string ⟨#[114, 111, 119, 115]⟩, .string ⟨#[99, 111, 109, 109, 97, 110, 100]⟩]
theorem word_cell (k : Nat) (hk : k < 14) (w : World) : (w.alloc (.cells #[.string ⟨#[110, 111, 110, 101]⟩, .string ⟨#[115, 121, 110, 116, 97, 120]⟩, .string ⟨#[100, 101, 101, 112]⟩, .string ⟨#[109, 97, 110, 121]⟩, .string ⟨#[97, 114, 105, 116, 121]⟩, .string ⟨#[116, 121, 112, 101]⟩, .string ⟨#[117, 110, 115, 97, 102, 101]⟩, .string ⟨#[99, 121, 99, 108, 101]⟩, .string ⟨#[97, 100, 109, 105, 116]⟩, .string ⟨#[117, 110, 107, 110, 111, 119, 110]⟩, .string ⟨#[97, 114, 105, 116, 104]⟩, .string ⟨#[102, 117, 101, 108]⟩, .string ⟨#[114, 111, 119, 115]⟩, .string ⟨#[99, 111, 109, 109, 97, 110, 100]⟩] 9)).cell? ⟨w.heap.size, k, none⟩ = some (.string ⟨(nameBytes[k]?.getD []).toArray⟩) := by
  have hs : k = 0 ∨ k = 1 ∨ k = 2 ∨ k = 3 ∨ k = 4 ∨ k = 5 ∨ k = 6 ∨ k = 7 ∨ k = 8 ∨ k = 9 ∨ k = 10 ∨ k = 11 ∨ k = 12 ∨ k = 13 := by omega
  rcases hs with rfl | rfl | rfl | rfl | rfl | rfl | rfl | rfl | rfl | rfl | rfl | rfl | rfl | rfl
  all_goals simp [nameBytes]

set_option maxRecDepth 100000 in
set_option maxHeartbeats 1000000 in
theorem word_calls (n : Int) (w : World) (h0 : -9223372036854775808 ≤ n) (h1 : n ≤ 9223372036854775807) :
    Calls Tryd.prog 16 #[.int .i64 n] w fun e w' => e = .returned (.string ⟨(tagText n).toArray⟩) ∧ Ext w w' := by
  by_cases hin : 0 ≤ n ∧ n < 14
  · obtain ⟨k0, k1⟩ := hin
    have hc := word_cell n.toNat (by omega) w
    have T := Lib.hid (show tagText n = nameBytes[n.toNat]?.getD [] from if_pos ⟨k0, k1⟩)
    generalize nameBytes[n.toNat]?.getD [] = nb at *
    go_enter Tryd.func16, Tryd.ntmps16
    go_wp2_with fail
    go_ret
    exact ⟨ret_bytes (by rw [T.out]), (Ext.refl _).alloc _⟩
  · have hl := Lib.itoa_length_le n h0 h1
    have T := Lib.hid (show tagText n = [116, 97, 103, 32] ++ Lib.itoa n from if_neg hin)
    by_cases k0 : n < 0
    all_goals
      first
      | have k1 : 14 ≤ n := by omega
        clear hin
        go_enter Tryd.func16, Tryd.ntmps16
        go_wp2_with fail
        refine (digits_calls n _ h0 h1).mono ?_
        rintro e w1 ⟨rfl, hx⟩
        have H := Lib.hid hx
        clear hx
        go_wp2_with fail
        go_ret
        exact ⟨ret_bytes (by rw [T.out]; exact ByteArray.mk_append_mk [116, 97, 103, 32] _), Ext.trans ((Ext.refl _).alloc _) H.out⟩
      | clear hin
        go_enter Tryd.func16, Tryd.ntmps16
        go_wp2_with fail
        refine (digits_calls n _ h0 h1).mono ?_
        rintro e w1 ⟨rfl, hx⟩
        have H := Lib.hid hx
        clear hx
        go_wp2_with fail
        go_ret
        exact ⟨ret_bytes (by rw [T.out]; exact ByteArray.mk_append_mk [116, 97, 103, 32] _), Ext.trans ((Ext.refl _).alloc _) H.out⟩

theorem methodError (a : Addr) (w : World) : (Go.method 259 40 (.pointer (some a)) "Error").run Tryd.prog w = .ok (84, .pointer (some a)) w := by kernel_rfl

set_option maxRecDepth 100000 in
set_option maxHeartbeats 2000000 in
theorem head01_calls (w : World) (hF : FW w) (hNG : 6 ≤ w.heap.size) :
    Calls Tryd.prog 14 #[] w fun e w' => e = .returned (.bool true) ∧ Ext w w' := by
  have mE := methodError
  have et : errText [(5, 0, ⟨#[108, 111, 97, 100]⟩), (5, 3, ⟨#[112]⟩)] = [116, 121, 112, 101, 32, 97, 116, 32, 48, 32, 40, 108, 111, 97, 100, 41, 58, 32, 116, 121, 112, 101, 32, 97, 116, 32, 51, 32, 40, 112, 41] := by
    simp [errText, layerText, tagText, nameBytes, Lib.itoa, Lib.decDigits]
  have ET := Lib.hid et
  clear et
  go_enter Tryd.func14, Tryd.ntmps14
  go_wp2_with fail
  refine (new_calls 5 3 _ _).mono ?_
  rintro e w1 ⟨rfl, hf1, hx1⟩
  have H1 := Lib.hid hx1
  clear hx1
  have F1 := hF.ext H1.out
  go_wp2_with fail
  refine (wrap_fault _ 5 3 _ .nilIface 0 _ _ hf1 (.inl rfl) F1.err).mono ?_
  rintro e w2 ⟨g, rfl, hg, hf2, hx2⟩
  have H2 := Lib.hid hx2
  clear hx2
  have F2 := F1.ext H2.out
  have C2 : Chain w2 (.iface 40 (.pointer (some ⟨g, 0, none⟩))) [(5, 0, ⟨#[108, 111, 97, 100]⟩), (5, 3, ⟨#[112]⟩)] := Chain.mk hf2 (Chain.mk (hf1.below hf1.lt H2.out) rfl)
  have n2 : 6 ≤ w2.heap.size := Nat.le_trans hNG (Nat.le_trans H1.out.size H2.out.size)
  go_wp2_with fail
  refine (error_calls g _ _ C2 ?_ (by decide) F2 n2).mono ?_
  · intro x hx
    simp at hx
    rcases hx with rfl | rfl <;> exact ⟨by decide, by decide, by decide⟩
  rintro e w3 ⟨rfl, hx3⟩
  have H3 := Lib.hid hx3
  clear hx3
  rw [ET.out]
  have f3 := hf2.below hf2.lt H3.out
  have C3 := C2.ext H3.out
  have F3 := F2.ext H3.out
  go_wp2_with fail
  refine (of_fault g 5 0 _ _ _ f3 (.inr ⟨_, _, rfl⟩) F3.err).mono ?_
  rintro e w4 ⟨rfl, hx4⟩
  have H4 := Lib.hid hx4
  clear hx4
  have f4 := f3.below f3.lt H4.out
  have C4 := C3.ext H4.out
  have F4 := F3.ext H4.out
  clear f3 C3 F3
  go_wp2_with fail
  refine (depth_chain _ _ _ C4 (by decide) F4.err).mono ?_
  rintro e w5 ⟨rfl, hx5⟩
  have H5 := Lib.hid hx5
  clear hx5
  have f5 := f4.below f4.lt H5.out
  clear f4 C4 F4
  go_wp2_with fail
  refine (is_hit g 5 0 _ _ _ f5 (.inr ⟨_, _, rfl⟩)).mono ?_
  rintro e w6 ⟨rfl, hx6⟩
  have H6 := Lib.hid hx6
  clear hx6
  go_wp2_with fail
  go_ret
  exact ⟨rfl, Ext.trans H1.out (Ext.trans H2.out (Ext.trans H3.out (Ext.trans H4.out (Ext.trans H5.out H6.out))))⟩

set_option maxHeartbeats 2000000 in
theorem depth_tag (n : Int) (w : World) (hg : ErrType w) :
    Calls Tryd.prog 19 #[.iface 23 (.int .i64 n)] w fun e w' => e = .returned (.int .i64 0) ∧ Ext w w' := by
  go_enter Tryd.func19, Tryd.ntmps19
  go_wp2_with fail
  refine (first_tag n _ hg).mono ?_
  rintro e w1 ⟨rfl, hx⟩
  have H := Lib.hid hx
  clear hx
  unfold noFault
  go_wp2_with fail
  refine wp_loop_rounds 1 ?_
  rw [rounds_succ]
  go_wp2_with fail
  go_ret
  exact ⟨rfl, H.out.alloc _⟩

set_option maxRecDepth 100000 in
set_option maxHeartbeats 2000000 in
theorem words_walk (n : Int) (w : World) (hF : FW w) (hNG : 6 ≤ w.heap.size) (h0 : -9223372036854775808 ≤ n) (h1 : n ≤ 9223372036854775807) :
    Calls Tryd.prog 3 #[.int .i64 n] w fun e w' => e = .returned (.bool true) ∧ Below w.heap.size w w' := by
  have en : (n == n) = true := by simp
  go_enter Tryd.func3, Tryd.ntmps3
  go_wp2_with fail
  refine (head01_calls _ hF hNG).mono ?_
  rintro e w1 ⟨rfl, hx⟩
  have H1 := Lib.hid hx
  clear hx
  go_wp2_with fail
  refine (tagerr_calls n _ (hF.ext H1.out) h0 h1).mono ?_
  rintro e w2 ⟨rfl, hx⟩
  have H2 := Lib.hid (Ext.trans H1.out hx)
  clear hx
  go_wp2_with fail
  refine (word_calls n _ h0 h1).mono ?_
  rintro e w3 ⟨rfl, hx⟩
  have H3 := Lib.hid (Ext.trans H2.out hx)
  clear hx
  go_wp2_with fail
  refine (of_tag n _ (hF.ext H3.out).err).mono ?_
  rintro e w4 ⟨rfl, hx⟩
  have H4 := Lib.hid (Ext.trans H3.out hx)
  clear hx
  go_wp2_with fail
  refine (at_tag n _ (hF.ext H4.out).err).mono ?_
  rintro e w5 ⟨rfl, hx⟩
  have H5 := Lib.hid (Ext.trans H4.out hx)
  clear hx
  go_wp2_with fail
  refine (depth_tag n _ (hF.ext H5.out).err).mono ?_
  rintro e w6 ⟨rfl, hx⟩
  have H6 := Lib.hid (Ext.trans H5.out hx)
  clear hx
  go_wp2_with fail
  refine (of_nil _).mono ?_
  rintro e w7 ⟨rfl, hx⟩
  have H7 := Lib.hid (Ext.trans H6.out hx)
  clear hx
  go_wp2_with fail
  refine (at_nil _).mono ?_
  rintro e w8 ⟨rfl, hx⟩
  have H8 := Lib.hid (Ext.trans H7.out hx)
  clear hx
  go_wp2_with fail
  refine (depth_chain .nilIface [] _ rfl (by decide) (hF.ext H8.out).err).mono ?_
  rintro e w9 ⟨rfl, hx⟩
  have H9 := Lib.hid (Ext.trans H8.out hx)
  clear hx
  go_wp2_with fail
  go_ret
  exact ⟨rfl, H9.out⟩
end Go.Proofs.YtfcjiiogigfjkaaDoor
