/-
  The document's Group: a language's.
-/
import Derived.Test.YtpiajeonnhfanaaDoorPa
import Derived.Deep.CutRange
set_option linter.unusedVariables false
set_option linter.unusedSimpArgs false
set_option maxRecDepth 100000
namespace Go.Proofs.YtpiajeonnhfanaaDoor
open Go.RowKit
attribute [local go_sem ↓] Go.wp_at_zero Go.wp_at_succ

set_option maxHeartbeats 2000000 in
theorem group_none (s : ByteArray) (w : World) (h : Tst s fun _ => false) : Calls Tryd.prog 20 #[.string s] w fun e w' => e = .returned (.int .i64 0) ∧ w = w' := by
  obtain ⟨t0, t1, t2, t3, t4, t5, t6, t7, t8, t9, t10, t11, t12, t13, t14, t15⟩ := h
  go_enter Tryd.func20, Tryd.ntmps20
  go_wp2
  go_ret
  exact ⟨rfl, rfl⟩
set_option maxHeartbeats 2000000 in
theorem group_l0 (s : ByteArray) (w : World) (h : Tst s fun j => decide (j = 0 ∨ 16 ≤ j)) : Calls Tryd.prog 20 #[.string s] w fun e w' => e = .returned (.int .i64 1) ∧ w = w' := by
  obtain ⟨t0, t1, t2, t3, t4, t5, t6, t7, t8, t9, t10, t11, t12, t13, t14, t15⟩ := h
  replace t0 := t0.trans (by decide : _ = true)
  replace t1 := t1.trans (by decide : _ = false)
  replace t2 := t2.trans (by decide : _ = false)
  replace t3 := t3.trans (by decide : _ = false)
  replace t4 := t4.trans (by decide : _ = false)
  replace t5 := t5.trans (by decide : _ = false)
  replace t6 := t6.trans (by decide : _ = false)
  replace t7 := t7.trans (by decide : _ = false)
  replace t8 := t8.trans (by decide : _ = false)
  replace t9 := t9.trans (by decide : _ = false)
  replace t10 := t10.trans (by decide : _ = false)
  replace t11 := t11.trans (by decide : _ = false)
  replace t12 := t12.trans (by decide : _ = false)
  replace t13 := t13.trans (by decide : _ = false)
  replace t14 := t14.trans (by decide : _ = false)
  replace t15 := t15.trans (by decide : _ = false)
  go_enter Tryd.func20, Tryd.ntmps20
  go_wp2
  go_ret
  exact ⟨rfl, rfl⟩
set_option maxHeartbeats 2000000 in
theorem group_l1 (s : ByteArray) (w : World) (h : Tst s fun j => decide (j = 1 ∨ 16 ≤ j)) : Calls Tryd.prog 20 #[.string s] w fun e w' => e = .returned (.int .i64 1) ∧ w = w' := by
  obtain ⟨t0, t1, t2, t3, t4, t5, t6, t7, t8, t9, t10, t11, t12, t13, t14, t15⟩ := h
  replace t0 := t0.trans (by decide : _ = false)
  replace t1 := t1.trans (by decide : _ = true)
  replace t2 := t2.trans (by decide : _ = false)
  replace t3 := t3.trans (by decide : _ = false)
  replace t4 := t4.trans (by decide : _ = false)
  replace t5 := t5.trans (by decide : _ = false)
  replace t6 := t6.trans (by decide : _ = false)
  replace t7 := t7.trans (by decide : _ = false)
  replace t8 := t8.trans (by decide : _ = false)
  replace t9 := t9.trans (by decide : _ = false)
  replace t10 := t10.trans (by decide : _ = false)
  replace t11 := t11.trans (by decide : _ = false)
  replace t12 := t12.trans (by decide : _ = false)
  replace t13 := t13.trans (by decide : _ = false)
  replace t14 := t14.trans (by decide : _ = false)
  replace t15 := t15.trans (by decide : _ = false)
  go_enter Tryd.func20, Tryd.ntmps20
  go_wp2
  go_ret
  exact ⟨rfl, rfl⟩
set_option maxHeartbeats 2000000 in
theorem group_l2 (s : ByteArray) (w : World) (h : Tst s fun j => decide (j = 2 ∨ 16 ≤ j)) : Calls Tryd.prog 20 #[.string s] w fun e w' => e = .returned (.int .i64 1) ∧ w = w' := by
  obtain ⟨t0, t1, t2, t3, t4, t5, t6, t7, t8, t9, t10, t11, t12, t13, t14, t15⟩ := h
  replace t0 := t0.trans (by decide : _ = false)
  replace t1 := t1.trans (by decide : _ = false)
  replace t2 := t2.trans (by decide : _ = true)
  replace t3 := t3.trans (by decide : _ = false)
  replace t4 := t4.trans (by decide : _ = false)
  replace t5 := t5.trans (by decide : _ = false)
  replace t6 := t6.trans (by decide : _ = false)
  replace t7 := t7.trans (by decide : _ = false)
  replace t8 := t8.trans (by decide : _ = false)
  replace t9 := t9.trans (by decide : _ = false)
  replace t10 := t10.trans (by decide : _ = false)
  replace t11 := t11.trans (by decide : _ = false)
  replace t12 := t12.trans (by decide : _ = false)
  replace t13 := t13.trans (by decide : _ = false)
  replace t14 := t14.trans (by decide : _ = false)
  replace t15 := t15.trans (by decide : _ = false)
  go_enter Tryd.func20, Tryd.ntmps20
  go_wp2
  go_ret
  exact ⟨rfl, rfl⟩
set_option maxHeartbeats 2000000 in
theorem group_l3 (s : ByteArray) (w : World) (h : Tst s fun j => decide (j = 3 ∨ 16 ≤ j)) : Calls Tryd.prog 20 #[.string s] w fun e w' => e = .returned (.int .i64 1) ∧ w = w' := by
  obtain ⟨t0, t1, t2, t3, t4, t5, t6, t7, t8, t9, t10, t11, t12, t13, t14, t15⟩ := h
  replace t0 := t0.trans (by decide : _ = false)
  replace t1 := t1.trans (by decide : _ = false)
  replace t2 := t2.trans (by decide : _ = false)
  replace t3 := t3.trans (by decide : _ = true)
  replace t4 := t4.trans (by decide : _ = false)
  replace t5 := t5.trans (by decide : _ = false)
  replace t6 := t6.trans (by decide : _ = false)
  replace t7 := t7.trans (by decide : _ = false)
  replace t8 := t8.trans (by decide : _ = false)
  replace t9 := t9.trans (by decide : _ = false)
  replace t10 := t10.trans (by decide : _ = false)
  replace t11 := t11.trans (by decide : _ = false)
  replace t12 := t12.trans (by decide : _ = false)
  replace t13 := t13.trans (by decide : _ = false)
  replace t14 := t14.trans (by decide : _ = false)
  replace t15 := t15.trans (by decide : _ = false)
  go_enter Tryd.func20, Tryd.ntmps20
  go_wp2
  go_ret
  exact ⟨rfl, rfl⟩
set_option maxHeartbeats 2000000 in
theorem group_l4 (s : ByteArray) (w : World) (h : Tst s fun j => decide (j = 4 ∨ 16 ≤ j)) : Calls Tryd.prog 20 #[.string s] w fun e w' => e = .returned (.int .i64 1) ∧ w = w' := by
  obtain ⟨t0, t1, t2, t3, t4, t5, t6, t7, t8, t9, t10, t11, t12, t13, t14, t15⟩ := h
  replace t0 := t0.trans (by decide : _ = false)
  replace t1 := t1.trans (by decide : _ = false)
  replace t2 := t2.trans (by decide : _ = false)
  replace t3 := t3.trans (by decide : _ = false)
  replace t4 := t4.trans (by decide : _ = true)
  replace t5 := t5.trans (by decide : _ = false)
  replace t6 := t6.trans (by decide : _ = false)
  replace t7 := t7.trans (by decide : _ = false)
  replace t8 := t8.trans (by decide : _ = false)
  replace t9 := t9.trans (by decide : _ = false)
  replace t10 := t10.trans (by decide : _ = false)
  replace t11 := t11.trans (by decide : _ = false)
  replace t12 := t12.trans (by decide : _ = false)
  replace t13 := t13.trans (by decide : _ = false)
  replace t14 := t14.trans (by decide : _ = false)
  replace t15 := t15.trans (by decide : _ = false)
  go_enter Tryd.func20, Tryd.ntmps20
  go_wp2
  go_ret
  exact ⟨rfl, rfl⟩
set_option maxHeartbeats 2000000 in
theorem group_l5 (s : ByteArray) (w : World) (h : Tst s fun j => decide (j = 5 ∨ 16 ≤ j)) : Calls Tryd.prog 20 #[.string s] w fun e w' => e = .returned (.int .i64 1) ∧ w = w' := by
  obtain ⟨t0, t1, t2, t3, t4, t5, t6, t7, t8, t9, t10, t11, t12, t13, t14, t15⟩ := h
  replace t0 := t0.trans (by decide : _ = false)
  replace t1 := t1.trans (by decide : _ = false)
  replace t2 := t2.trans (by decide : _ = false)
  replace t3 := t3.trans (by decide : _ = false)
  replace t4 := t4.trans (by decide : _ = false)
  replace t5 := t5.trans (by decide : _ = true)
  replace t6 := t6.trans (by decide : _ = false)
  replace t7 := t7.trans (by decide : _ = false)
  replace t8 := t8.trans (by decide : _ = false)
  replace t9 := t9.trans (by decide : _ = false)
  replace t10 := t10.trans (by decide : _ = false)
  replace t11 := t11.trans (by decide : _ = false)
  replace t12 := t12.trans (by decide : _ = false)
  replace t13 := t13.trans (by decide : _ = false)
  replace t14 := t14.trans (by decide : _ = false)
  replace t15 := t15.trans (by decide : _ = false)
  go_enter Tryd.func20, Tryd.ntmps20
  go_wp2
  go_ret
  exact ⟨rfl, rfl⟩
set_option maxHeartbeats 2000000 in
theorem group_l6 (s : ByteArray) (w : World) (h : Tst s fun j => decide (j = 6 ∨ 16 ≤ j)) : Calls Tryd.prog 20 #[.string s] w fun e w' => e = .returned (.int .i64 2) ∧ w = w' := by
  obtain ⟨t0, t1, t2, t3, t4, t5, t6, t7, t8, t9, t10, t11, t12, t13, t14, t15⟩ := h
  replace t0 := t0.trans (by decide : _ = false)
  replace t1 := t1.trans (by decide : _ = false)
  replace t2 := t2.trans (by decide : _ = false)
  replace t3 := t3.trans (by decide : _ = false)
  replace t4 := t4.trans (by decide : _ = false)
  replace t5 := t5.trans (by decide : _ = false)
  replace t6 := t6.trans (by decide : _ = true)
  replace t7 := t7.trans (by decide : _ = false)
  replace t8 := t8.trans (by decide : _ = false)
  replace t9 := t9.trans (by decide : _ = false)
  replace t10 := t10.trans (by decide : _ = false)
  replace t11 := t11.trans (by decide : _ = false)
  replace t12 := t12.trans (by decide : _ = false)
  replace t13 := t13.trans (by decide : _ = false)
  replace t14 := t14.trans (by decide : _ = false)
  replace t15 := t15.trans (by decide : _ = false)
  go_enter Tryd.func20, Tryd.ntmps20
  go_wp2
  go_ret
  exact ⟨rfl, rfl⟩
set_option maxHeartbeats 2000000 in
theorem group_l7 (s : ByteArray) (w : World) (h : Tst s fun j => decide (j = 7 ∨ 16 ≤ j)) : Calls Tryd.prog 20 #[.string s] w fun e w' => e = .returned (.int .i64 2) ∧ w = w' := by
  obtain ⟨t0, t1, t2, t3, t4, t5, t6, t7, t8, t9, t10, t11, t12, t13, t14, t15⟩ := h
  replace t0 := t0.trans (by decide : _ = false)
  replace t1 := t1.trans (by decide : _ = false)
  replace t2 := t2.trans (by decide : _ = false)
  replace t3 := t3.trans (by decide : _ = false)
  replace t4 := t4.trans (by decide : _ = false)
  replace t5 := t5.trans (by decide : _ = false)
  replace t6 := t6.trans (by decide : _ = false)
  replace t7 := t7.trans (by decide : _ = true)
  replace t8 := t8.trans (by decide : _ = false)
  replace t9 := t9.trans (by decide : _ = false)
  replace t10 := t10.trans (by decide : _ = false)
  replace t11 := t11.trans (by decide : _ = false)
  replace t12 := t12.trans (by decide : _ = false)
  replace t13 := t13.trans (by decide : _ = false)
  replace t14 := t14.trans (by decide : _ = false)
  replace t15 := t15.trans (by decide : _ = false)
  go_enter Tryd.func20, Tryd.ntmps20
  go_wp2
  go_ret
  exact ⟨rfl, rfl⟩
set_option maxHeartbeats 2000000 in
theorem group_l8 (s : ByteArray) (w : World) (h : Tst s fun j => decide (j = 8 ∨ 16 ≤ j)) : Calls Tryd.prog 20 #[.string s] w fun e w' => e = .returned (.int .i64 3) ∧ w = w' := by
  obtain ⟨t0, t1, t2, t3, t4, t5, t6, t7, t8, t9, t10, t11, t12, t13, t14, t15⟩ := h
  replace t0 := t0.trans (by decide : _ = false)
  replace t1 := t1.trans (by decide : _ = false)
  replace t2 := t2.trans (by decide : _ = false)
  replace t3 := t3.trans (by decide : _ = false)
  replace t4 := t4.trans (by decide : _ = false)
  replace t5 := t5.trans (by decide : _ = false)
  replace t6 := t6.trans (by decide : _ = false)
  replace t7 := t7.trans (by decide : _ = false)
  replace t8 := t8.trans (by decide : _ = true)
  replace t9 := t9.trans (by decide : _ = false)
  replace t10 := t10.trans (by decide : _ = false)
  replace t11 := t11.trans (by decide : _ = false)
  replace t12 := t12.trans (by decide : _ = false)
  replace t13 := t13.trans (by decide : _ = false)
  replace t14 := t14.trans (by decide : _ = false)
  replace t15 := t15.trans (by decide : _ = false)
  go_enter Tryd.func20, Tryd.ntmps20
  go_wp2
  go_ret
  exact ⟨rfl, rfl⟩
set_option maxHeartbeats 2000000 in
theorem group_l9 (s : ByteArray) (w : World) (h : Tst s fun j => decide (j = 9 ∨ 16 ≤ j)) : Calls Tryd.prog 20 #[.string s] w fun e w' => e = .returned (.int .i64 3) ∧ w = w' := by
  obtain ⟨t0, t1, t2, t3, t4, t5, t6, t7, t8, t9, t10, t11, t12, t13, t14, t15⟩ := h
  replace t0 := t0.trans (by decide : _ = false)
  replace t1 := t1.trans (by decide : _ = false)
  replace t2 := t2.trans (by decide : _ = false)
  replace t3 := t3.trans (by decide : _ = false)
  replace t4 := t4.trans (by decide : _ = false)
  replace t5 := t5.trans (by decide : _ = false)
  replace t6 := t6.trans (by decide : _ = false)
  replace t7 := t7.trans (by decide : _ = false)
  replace t8 := t8.trans (by decide : _ = false)
  replace t9 := t9.trans (by decide : _ = true)
  replace t10 := t10.trans (by decide : _ = false)
  replace t11 := t11.trans (by decide : _ = false)
  replace t12 := t12.trans (by decide : _ = false)
  replace t13 := t13.trans (by decide : _ = false)
  replace t14 := t14.trans (by decide : _ = false)
  replace t15 := t15.trans (by decide : _ = false)
  go_enter Tryd.func20, Tryd.ntmps20
  go_wp2
  go_ret
  exact ⟨rfl, rfl⟩
set_option maxHeartbeats 2000000 in
theorem group_l10 (s : ByteArray) (w : World) (h : Tst s fun j => decide (j = 10 ∨ 16 ≤ j)) : Calls Tryd.prog 20 #[.string s] w fun e w' => e = .returned (.int .i64 3) ∧ w = w' := by
  obtain ⟨t0, t1, t2, t3, t4, t5, t6, t7, t8, t9, t10, t11, t12, t13, t14, t15⟩ := h
  replace t0 := t0.trans (by decide : _ = false)
  replace t1 := t1.trans (by decide : _ = false)
  replace t2 := t2.trans (by decide : _ = false)
  replace t3 := t3.trans (by decide : _ = false)
  replace t4 := t4.trans (by decide : _ = false)
  replace t5 := t5.trans (by decide : _ = false)
  replace t6 := t6.trans (by decide : _ = false)
  replace t7 := t7.trans (by decide : _ = false)
  replace t8 := t8.trans (by decide : _ = false)
  replace t9 := t9.trans (by decide : _ = false)
  replace t10 := t10.trans (by decide : _ = true)
  replace t11 := t11.trans (by decide : _ = false)
  replace t12 := t12.trans (by decide : _ = false)
  replace t13 := t13.trans (by decide : _ = false)
  replace t14 := t14.trans (by decide : _ = false)
  replace t15 := t15.trans (by decide : _ = false)
  go_enter Tryd.func20, Tryd.ntmps20
  go_wp2
  go_ret
  exact ⟨rfl, rfl⟩
set_option maxHeartbeats 2000000 in
theorem group_l11 (s : ByteArray) (w : World) (h : Tst s fun j => decide (j = 11 ∨ 16 ≤ j)) : Calls Tryd.prog 20 #[.string s] w fun e w' => e = .returned (.int .i64 4) ∧ w = w' := by
  obtain ⟨t0, t1, t2, t3, t4, t5, t6, t7, t8, t9, t10, t11, t12, t13, t14, t15⟩ := h
  replace t0 := t0.trans (by decide : _ = false)
  replace t1 := t1.trans (by decide : _ = false)
  replace t2 := t2.trans (by decide : _ = false)
  replace t3 := t3.trans (by decide : _ = false)
  replace t4 := t4.trans (by decide : _ = false)
  replace t5 := t5.trans (by decide : _ = false)
  replace t6 := t6.trans (by decide : _ = false)
  replace t7 := t7.trans (by decide : _ = false)
  replace t8 := t8.trans (by decide : _ = false)
  replace t9 := t9.trans (by decide : _ = false)
  replace t10 := t10.trans (by decide : _ = false)
  replace t11 := t11.trans (by decide : _ = true)
  replace t12 := t12.trans (by decide : _ = false)
  replace t13 := t13.trans (by decide : _ = false)
  replace t14 := t14.trans (by decide : _ = false)
  replace t15 := t15.trans (by decide : _ = false)
  go_enter Tryd.func20, Tryd.ntmps20
  go_wp2
  go_ret
  exact ⟨rfl, rfl⟩
set_option maxHeartbeats 2000000 in
theorem group_l12 (s : ByteArray) (w : World) (h : Tst s fun j => decide (j = 12 ∨ 16 ≤ j)) : Calls Tryd.prog 20 #[.string s] w fun e w' => e = .returned (.int .i64 5) ∧ w = w' := by
  obtain ⟨t0, t1, t2, t3, t4, t5, t6, t7, t8, t9, t10, t11, t12, t13, t14, t15⟩ := h
  replace t0 := t0.trans (by decide : _ = false)
  replace t1 := t1.trans (by decide : _ = false)
  replace t2 := t2.trans (by decide : _ = false)
  replace t3 := t3.trans (by decide : _ = false)
  replace t4 := t4.trans (by decide : _ = false)
  replace t5 := t5.trans (by decide : _ = false)
  replace t6 := t6.trans (by decide : _ = false)
  replace t7 := t7.trans (by decide : _ = false)
  replace t8 := t8.trans (by decide : _ = false)
  replace t9 := t9.trans (by decide : _ = false)
  replace t10 := t10.trans (by decide : _ = false)
  replace t11 := t11.trans (by decide : _ = false)
  replace t12 := t12.trans (by decide : _ = true)
  replace t13 := t13.trans (by decide : _ = false)
  replace t14 := t14.trans (by decide : _ = false)
  replace t15 := t15.trans (by decide : _ = false)
  go_enter Tryd.func20, Tryd.ntmps20
  go_wp2
  go_ret
  exact ⟨rfl, rfl⟩
set_option maxHeartbeats 2000000 in
theorem group_l13 (s : ByteArray) (w : World) (h : Tst s fun j => decide (j = 13 ∨ 16 ≤ j)) : Calls Tryd.prog 20 #[.string s] w fun e w' => e = .returned (.int .i64 5) ∧ w = w' := by
  obtain ⟨t0, t1, t2, t3, t4, t5, t6, t7, t8, t9, t10, t11, t12, t13, t14, t15⟩ := h
  replace t0 := t0.trans (by decide : _ = false)
  replace t1 := t1.trans (by decide : _ = false)
  replace t2 := t2.trans (by decide : _ = false)
  replace t3 := t3.trans (by decide : _ = false)
  replace t4 := t4.trans (by decide : _ = false)
  replace t5 := t5.trans (by decide : _ = false)
  replace t6 := t6.trans (by decide : _ = false)
  replace t7 := t7.trans (by decide : _ = false)
  replace t8 := t8.trans (by decide : _ = false)
  replace t9 := t9.trans (by decide : _ = false)
  replace t10 := t10.trans (by decide : _ = false)
  replace t11 := t11.trans (by decide : _ = false)
  replace t12 := t12.trans (by decide : _ = false)
  replace t13 := t13.trans (by decide : _ = true)
  replace t14 := t14.trans (by decide : _ = false)
  replace t15 := t15.trans (by decide : _ = false)
  go_enter Tryd.func20, Tryd.ntmps20
  go_wp2
  go_ret
  exact ⟨rfl, rfl⟩
set_option maxHeartbeats 2000000 in
theorem group_l14 (s : ByteArray) (w : World) (h : Tst s fun j => decide (j = 14 ∨ 16 ≤ j)) : Calls Tryd.prog 20 #[.string s] w fun e w' => e = .returned (.int .i64 6) ∧ w = w' := by
  obtain ⟨t0, t1, t2, t3, t4, t5, t6, t7, t8, t9, t10, t11, t12, t13, t14, t15⟩ := h
  replace t0 := t0.trans (by decide : _ = false)
  replace t1 := t1.trans (by decide : _ = false)
  replace t2 := t2.trans (by decide : _ = false)
  replace t3 := t3.trans (by decide : _ = false)
  replace t4 := t4.trans (by decide : _ = false)
  replace t5 := t5.trans (by decide : _ = false)
  replace t6 := t6.trans (by decide : _ = false)
  replace t7 := t7.trans (by decide : _ = false)
  replace t8 := t8.trans (by decide : _ = false)
  replace t9 := t9.trans (by decide : _ = false)
  replace t10 := t10.trans (by decide : _ = false)
  replace t11 := t11.trans (by decide : _ = false)
  replace t12 := t12.trans (by decide : _ = false)
  replace t13 := t13.trans (by decide : _ = false)
  replace t14 := t14.trans (by decide : _ = true)
  replace t15 := t15.trans (by decide : _ = false)
  go_enter Tryd.func20, Tryd.ntmps20
  go_wp2
  go_ret
  exact ⟨rfl, rfl⟩
set_option maxHeartbeats 2000000 in
theorem group_l15 (s : ByteArray) (w : World) (h : Tst s fun j => decide (j = 15 ∨ 16 ≤ j)) : Calls Tryd.prog 20 #[.string s] w fun e w' => e = .returned (.int .i64 7) ∧ w = w' := by
  obtain ⟨t0, t1, t2, t3, t4, t5, t6, t7, t8, t9, t10, t11, t12, t13, t14, t15⟩ := h
  replace t0 := t0.trans (by decide : _ = false)
  replace t1 := t1.trans (by decide : _ = false)
  replace t2 := t2.trans (by decide : _ = false)
  replace t3 := t3.trans (by decide : _ = false)
  replace t4 := t4.trans (by decide : _ = false)
  replace t5 := t5.trans (by decide : _ = false)
  replace t6 := t6.trans (by decide : _ = false)
  replace t7 := t7.trans (by decide : _ = false)
  replace t8 := t8.trans (by decide : _ = false)
  replace t9 := t9.trans (by decide : _ = false)
  replace t10 := t10.trans (by decide : _ = false)
  replace t11 := t11.trans (by decide : _ = false)
  replace t12 := t12.trans (by decide : _ = false)
  replace t13 := t13.trans (by decide : _ = false)
  replace t14 := t14.trans (by decide : _ = false)
  replace t15 := t15.trans (by decide : _ = true)
  go_enter Tryd.func20, Tryd.ntmps20
  go_wp2
  go_ret
  exact ⟨rfl, rfl⟩
theorem group_any (s : ByteArray) (w : World) : Calls Tryd.prog 20 #[.string s] w fun e w' => e = .returned (.int .i64 (D.grp (D.ns s) : Nat)) ∧ w = w' := by
  rcases tst_cases s with ⟨i, hi, ht, hg⟩ | ⟨ht, hg⟩
  · rw [hg]
    obtain rfl | rfl | rfl | rfl | rfl | rfl | rfl | rfl | rfl | rfl | rfl | rfl | rfl | rfl | rfl | rfl : i = 0 ∨ i = 1 ∨ i = 2 ∨ i = 3 ∨ i = 4 ∨ i = 5 ∨ i = 6 ∨ i = 7 ∨ i = 8 ∨ i = 9 ∨ i = 10 ∨ i = 11 ∨ i = 12 ∨ i = 13 ∨ i = 14 ∨ i = 15 := by omega
    · exact group_l0 s w ht
    · exact group_l1 s w ht
    · exact group_l2 s w ht
    · exact group_l3 s w ht
    · exact group_l4 s w ht
    · exact group_l5 s w ht
    · exact group_l6 s w ht
    · exact group_l7 s w ht
    · exact group_l8 s w ht
    · exact group_l9 s w ht
    · exact group_l10 s w ht
    · exact group_l11 s w ht
    · exact group_l12 s w ht
    · exact group_l13 s w ht
    · exact group_l14 s w ht
    · exact group_l15 s w ht
  · rw [hg]
    exact group_none s w ht
end Go.Proofs.YtpiajeonnhfanaaDoor
