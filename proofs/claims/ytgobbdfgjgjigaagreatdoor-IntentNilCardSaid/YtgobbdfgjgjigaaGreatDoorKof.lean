/-
  The program's Of: the key of parts.
-/
import Derived.Test.YtgobbdfgjgjigaaGreatDoorRefa
import Derived.Test.YtgobbdfgjgjigaaGreatDoorKuse
import Derived.Test.YtgobbdfgjgjigaaGreatDoorACut
import Derived.Laws.CopyOwn
import Derived.Laws.ResultCell
import Derived.Deep.Light
import Derived.Sort.Grow
set_option linter.unusedVariables false
set_option linter.unusedSimpArgs false
set_option maxRecDepth 100000
namespace Go.Proofs.YtgobbdfgjgjigaaGreatDoor
open Go.RowKit
attribute [local go_sem ↓] Go.wp_at_zero Go.wp_at_succ ld_k lv_k st_k eq_k ne_k bd_k Nm.ld_a Nm.ld_n Nm.st_a Nm.st_n ld_a ld_n st_a st_n eq_a eq_n ne_a ne_n lv_a lv_n
attribute [local go_sem] run_ldk run_lvk run_stk run_eqk run_nek run_bdk_z Nm.run_ld_a Nm.run_ld_n Nm.run_st_n Nm.rd_new Nm.rd_old Nm.rd_drew Nm.rd_drewN run_ld_a run_ld_n run_sw_a run_sw_n run_eq_a run_eq_n run_ne_a run_ne_n run_lv_a run_lv_n st_z ne_z eq_z rd_new rd_old rd_drew rd_drewN Shp.rd_new Shp.rd_old Shp.rd_drew Shp.rd_drewN Shp.tn_new Shp.tn_old Shp.tn_drew Shp.tn_drewN setRow_alloc run_stn3 run_stt15

theorem lvk_of {w : World} {g : Nat} {x : D.Ky} (h : kS.rd w ⟨g, 0, none⟩ = some x) : (loadVar 30 ⟨g, 0, none⟩).run Tryz.prog w = .ok (.agg (kS.v x)) w := (run_lvk w ⟨g, 0, none⟩).trans (by rw [h]; rfl)

set_option maxHeartbeats 4000000 in
theorem kof_none (cT : ∀ (x : D.Tg) (w : World), Calls Tryz.prog 77 #[.agg (nc x)] w fun e w' => e = .returned (.bool (D.right x)) ∧ Below w.heap.size w w') (k : Int) (hk : ¬ (1 ≤ k ∧ k ≤ 6)) (p : Int) (a : Int) (n : Nm.D.Nm) (t : D.Tg) (w : World) :
    Calls Tryz.prog 45 #[.int .i64 k, .int .i64 p, .int .i64 a, .agg (Nm.nc n), .agg (nc t)] w fun e w' => e = .returned (.tuple #[.agg (kS.v D.zK), .int .i64 16]) ∧ Below w.heap.size w w' := by
  obtain ⟨W0, hW0⟩ : ∃ W, ((w.alloc (.cells (Nm.nc n) 24)).alloc (.cells (nc t) 28)).alloc (.cells z25 30) = W := ⟨_, rfl⟩
  have f0 : Nm.rd W0 ⟨w.heap.size, 0, none⟩ = some n := by rw [← hW0]; exact Nm.rd_on (Nm.rd_on (Nm.rd_new w _ _ n rfl) (below_alloc_ _ _)) (below_alloc_ _ _)
  have g0 : rd W0 ⟨w.heap.size + 1, 0, none⟩ = some t := by rw [← hW0]; exact rd_on (rd_new _ _ _ t (by simp)) (below_alloc_ _ _)
  have k0 : Shp.tn 25 W0 (w.heap.size + 2) = true := by rw [← hW0]; exact Shp.tn_new _ _ _ _ _ (by simp) rfl
  have s0 : w.heap.size + 2 < W0.heap.size := by rw [← hW0]; simp
  have z0 : Below w.heap.size w W0 := by rw [← hW0]; exact (((Below.refl _ _).alloc (Nat.le_refl _) _).alloc (by simp) _).alloc (by simp; omega) _
  have CU := Lib.hid (fun w => (show Calls Tryz.prog 74 #[.int .i64 k] w fun e w' => e = .returned (.tuple #[.agg #[.int .i64 0, .bool false, .bool false], .bool false]) ∧ Below w.heap.size w w' from by have := useOf_any k w; rwa [decide_eq_false hk, usev_none hk] at this))
  clear cT hk
  go_enter Tryz.func45, Tryz.ntmps45
  unfold z25 at hW0
  go_wp2_with fail
  try rw [hW0]
  clear hW0
  go_wp2_with (go_at_call 74; (with_reducible refine (CU.out _).mono ?_); rintro e w1 ⟨rfl, b1⟩; have k0 := Shp.tn_on k0 b1; have s1 := Nat.lt_of_lt_of_le s0 b1.size; have z1 := below_up z0 z0.size b1; have f0 := Nm.rd_on f0 b1; have g0 := rd_on g0 b1)
  have hset := Shp.rd_set (S := kS) (w1.alloc (.cells #[.int .i64 0, .bool false, .bool false] 135)) (w.heap.size + 2) D.zK (Shp.tn_on k0 (below_alloc_ _ _))
  have z9 := below_setRow (z1.alloc z1.size (.cells #[.int .i64 0, .bool false, .bool false] 135)) (g := w.heap.size + 2) (by omega) (kS.v D.zK)
  exact bodyPost_ret (v := .tuple #[.agg (kS.v D.zK), .int .i64 16]) (by rw [results_cell_tmp rfl]; simp [asAddr, Result.andThen, lvk_of hset]) rfl ⟨rfl, z9⟩

set_option maxHeartbeats 4000000 in
theorem kof_p1 (cT : ∀ (x : D.Tg) (w : World), Calls Tryz.prog 77 #[.agg (nc x)] w fun e w' => e = .returned (.bool (D.right x)) ∧ Below w.heap.size w w') (p : Int) (hp : ¬ (0 ≤ p ∧ p < 4)) (a : Int) (n : Nm.D.Nm) (t : D.Tg) (w : World) :
    Calls Tryz.prog 45 #[.int .i64 1, .int .i64 p, .int .i64 a, .agg (Nm.nc n), .agg (nc t)] w fun e w' => e = .returned (.tuple #[.agg (kS.v D.zK), .int .i64 5]) ∧ Below w.heap.size w w' := by
  obtain ⟨W0, hW0⟩ : ∃ W, ((w.alloc (.cells (Nm.nc n) 24)).alloc (.cells (nc t) 28)).alloc (.cells z25 30) = W := ⟨_, rfl⟩
  have f0 : Nm.rd W0 ⟨w.heap.size, 0, none⟩ = some n := by rw [← hW0]; exact Nm.rd_on (Nm.rd_on (Nm.rd_new w _ _ n rfl) (below_alloc_ _ _)) (below_alloc_ _ _)
  have g0 : rd W0 ⟨w.heap.size + 1, 0, none⟩ = some t := by rw [← hW0]; exact rd_on (rd_new _ _ _ t (by simp)) (below_alloc_ _ _)
  have k0 : Shp.tn 25 W0 (w.heap.size + 2) = true := by rw [← hW0]; exact Shp.tn_new _ _ _ _ _ (by simp) rfl
  have s0 : w.heap.size + 2 < W0.heap.size := by rw [← hW0]; simp
  have z0 : Below w.heap.size w W0 := by rw [← hW0]; exact (((Below.refl _ _).alloc (Nat.le_refl _) _).alloc (by simp) _).alloc (by simp; omega) _
  have CU := Lib.hid (fun w => (show Calls Tryz.prog 74 #[.int .i64 1] w fun e w' => e = .returned (.tuple #[.agg #[.int .i64 0, .bool false, .bool false], .bool true]) ∧ Below w.heap.size w w' from useOf_any 1 w))
  have CP := Lib.hid (fun w => (show Calls Tryz.prog 75 #[.int .i64 p, .int .i64 4] w fun e w' => e = .returned (.bool false) ∧ w = w' from by have := below_num p 4 w; rwa [decide_eq_false (by omega)] at this))
  clear cT hp
  go_enter Tryz.func45, Tryz.ntmps45
  unfold z25 at hW0
  go_wp2_with fail
  try rw [hW0]
  clear hW0
  go_wp2_with (go_at_call 74; (with_reducible refine (CU.out _).mono ?_); rintro e w1 ⟨rfl, b1⟩; have k0 := Shp.tn_on k0 b1; have s1 := Nat.lt_of_lt_of_le s0 b1.size; have z1 := below_up z0 z0.size b1; have f0 := Nm.rd_on f0 b1; have g0 := rd_on g0 b1)
  obtain ⟨W1, hW1⟩ : ∃ W, w1.alloc (.cells #[.int .i64 0, .bool false, .bool false] 135) = W := ⟨_, rfl⟩
  have B1 := Blk.new w1 135 #[.int .i64 0, .bool false, .bool false]
  have k1 := Shp.tn_on k0 (below_alloc_ w1 (.cells #[.int .i64 0, .bool false, .bool false] 135))
  have f1 := Nm.rd_on f0 (below_alloc_ w1 (.cells #[.int .i64 0, .bool false, .bool false] 135))
  have g1 := rd_on g0 (below_alloc_ w1 (.cells #[.int .i64 0, .bool false, .bool false] 135))
  have z1' := z1.alloc z1.size (.cells #[.int .i64 0, .bool false, .bool false] 135)
  have s1' : w1.heap.size < (w1.alloc (.cells #[.int .i64 0, .bool false, .bool false] 135)).heap.size := by simp
  rw [hW1] at B1 k1 f1 g1 z1' s1'
  rw [hW1]
  clear hW1 k0 f0 g0 z1 s0 z0
  obtain ⟨m, hm⟩ : ∃ m, w1.heap.size = m := ⟨_, rfl⟩
  rw [hm] at B1 s1 s1'
  rw [hm]
  clear hm b1
  have q1 : w.heap.size + 2 < W1.heap.size := by omega
  have r1 : w.heap.size + 1 < W1.heap.size := by omega
  have t1 : w.heap.size < W1.heap.size := by omega
  have u0 := B1.c 0
  have u1 := B1.c 1
  have u2 := B1.c 2
  simp at u0 u1 u2
  go_wp2_with (first
    | (go_at_call 75; (with_reducible refine (CP.out _).mono ?_); rintro e w2 ⟨rfl, rfl⟩))
  have hset := Shp.rd_set (S := kS) W1 (w.heap.size + 2) D.zK k1
  have z9 := below_setRow z1' (g := w.heap.size + 2) (by omega) (kS.v D.zK)
  exact bodyPost_ret (v := .tuple #[.agg (kS.v D.zK), .int .i64 5]) (by rw [results_cell_tmp rfl]; simp [asAddr, Result.andThen, lvk_of hset]) rfl ⟨rfl, z9⟩

set_option maxHeartbeats 4000000 in
theorem kof_ok1 (cT : ∀ (x : D.Tg) (w : World), Calls Tryz.prog 77 #[.agg (nc x)] w fun e w' => e = .returned (.bool (D.right x)) ∧ Below w.heap.size w w') (q : Nat) (hp : q < 4) (a : Int) (n : Nm.D.Nm) (t : D.Tg) (w : World) :
    Calls Tryz.prog 45 #[.int .i64 1, .int .i64 (q : Int), .int .i64 a, .agg (Nm.nc n), .agg (nc t)] w fun e w' => e = .returned (.tuple #[.agg (kS.v (D.mkK 1 q 0 Nm.D.zero D.zero)), .int .i64 0]) ∧ Below w.heap.size w w' := by
  obtain ⟨W0, hW0⟩ : ∃ W, ((w.alloc (.cells (Nm.nc n) 24)).alloc (.cells (nc t) 28)).alloc (.cells z25 30) = W := ⟨_, rfl⟩
  have f0 : Nm.rd W0 ⟨w.heap.size, 0, none⟩ = some n := by rw [← hW0]; exact Nm.rd_on (Nm.rd_on (Nm.rd_new w _ _ n rfl) (below_alloc_ _ _)) (below_alloc_ _ _)
  have g0 : rd W0 ⟨w.heap.size + 1, 0, none⟩ = some t := by rw [← hW0]; exact rd_on (rd_new _ _ _ t (by simp)) (below_alloc_ _ _)
  have k0 : Shp.tn 25 W0 (w.heap.size + 2) = true := by rw [← hW0]; exact Shp.tn_new _ _ _ _ _ (by simp) rfl
  have s0 : w.heap.size + 2 < W0.heap.size := by rw [← hW0]; simp
  have z0 : Below w.heap.size w W0 := by rw [← hW0]; exact (((Below.refl _ _).alloc (Nat.le_refl _) _).alloc (by simp) _).alloc (by simp; omega) _
  have CU := Lib.hid (fun w => (show Calls Tryz.prog 74 #[.int .i64 1] w fun e w' => e = .returned (.tuple #[.agg #[.int .i64 0, .bool false, .bool false], .bool true]) ∧ Below w.heap.size w w' from useOf_any 1 w))
  have CP := Lib.hid (fun w => (show Calls Tryz.prog 75 #[.int .i64 (q : Int), .int .i64 4] w fun e w' => e = .returned (.bool true) ∧ w = w' from by have := below_num (q : Int) 4 w; rwa [decide_eq_true (by omega)] at this))
  have hb : ∀ W, (bdk #[(0, .int .u8 1), (1, .int .u8 (q : Int))]).run Tryz.prog W = .ok (.agg (kS.v (D.mkK 1 q 0 Nm.D.zero D.zero))) W := fun W => run_bdk_2 W 1 q (by omega) (by omega)
  have hq : q % 256 = q := Nat.mod_eq_of_lt (by omega)
  have hqi : (q : Int) % 256 = q := by omega
  clear cT hp
  go_enter Tryz.func45, Tryz.ntmps45
  unfold z25 at hW0
  go_wp2_with fail
  try rw [hW0]
  clear hW0
  go_wp2_with (go_at_call 74; (with_reducible refine (CU.out _).mono ?_); rintro e w1 ⟨rfl, b1⟩; have k0 := Shp.tn_on k0 b1; have s1 := Nat.lt_of_lt_of_le s0 b1.size; have z1 := below_up z0 z0.size b1; have f0 := Nm.rd_on f0 b1; have g0 := rd_on g0 b1)
  obtain ⟨W1, hW1⟩ : ∃ W, w1.alloc (.cells #[.int .i64 0, .bool false, .bool false] 135) = W := ⟨_, rfl⟩
  have B1 := Blk.new w1 135 #[.int .i64 0, .bool false, .bool false]
  have k1 := Shp.tn_on k0 (below_alloc_ w1 (.cells #[.int .i64 0, .bool false, .bool false] 135))
  have f1 := Nm.rd_on f0 (below_alloc_ w1 (.cells #[.int .i64 0, .bool false, .bool false] 135))
  have g1 := rd_on g0 (below_alloc_ w1 (.cells #[.int .i64 0, .bool false, .bool false] 135))
  have z1' := z1.alloc z1.size (.cells #[.int .i64 0, .bool false, .bool false] 135)
  have s1' : w1.heap.size < (w1.alloc (.cells #[.int .i64 0, .bool false, .bool false] 135)).heap.size := by simp
  rw [hW1] at B1 k1 f1 g1 z1' s1'
  rw [hW1]
  clear hW1 k0 f0 g0 z1 s0 z0
  obtain ⟨m, hm⟩ : ∃ m, w1.heap.size = m := ⟨_, rfl⟩
  rw [hm] at B1 s1 s1'
  rw [hm]
  clear hm b1
  have q1 : w.heap.size + 2 < W1.heap.size := by omega
  have r1 : w.heap.size + 1 < W1.heap.size := by omega
  have t1 : w.heap.size < W1.heap.size := by omega
  have u0 := B1.c 0
  have u1 := B1.c 1
  have u2 := B1.c 2
  simp at u0 u1 u2
  go_wp2_with (first
    | (go_at_call 75; (with_reducible refine (CP.out _).mono ?_); rintro e w2 ⟨rfl, rfl⟩))
  have hset := Shp.rd_set (S := kS) (W1.alloc (.cells (kS.v (D.mkK 1 q 0 Nm.D.zero D.zero)) 30)) (w.heap.size + 2) (D.mkK 1 q 0 Nm.D.zero D.zero) (Shp.tn_on k1 (below_alloc_ _ _))
  have z9 := below_setRow (z1'.alloc z1'.size (.cells (kS.v (D.mkK 1 q 0 Nm.D.zero D.zero)) 30)) (g := w.heap.size + 2) (by omega) (kS.v (D.mkK 1 q 0 Nm.D.zero D.zero))
  exact bodyPost_ret (v := .tuple #[.agg (kS.v (D.mkK 1 q 0 Nm.D.zero D.zero)), .int .i64 0]) (by rw [results_cell_tmp rfl]; simp [asAddr, Result.andThen, lvk_of hset]) rfl ⟨rfl, z9⟩

set_option maxHeartbeats 4000000 in
theorem kof_p2 (cT : ∀ (x : D.Tg) (w : World), Calls Tryz.prog 77 #[.agg (nc x)] w fun e w' => e = .returned (.bool (D.right x)) ∧ Below w.heap.size w w') (p : Int) (hp : ¬ (0 ≤ p ∧ p < 4)) (a : Int) (n : Nm.D.Nm) (t : D.Tg) (w : World) :
    Calls Tryz.prog 45 #[.int .i64 2, .int .i64 p, .int .i64 a, .agg (Nm.nc n), .agg (nc t)] w fun e w' => e = .returned (.tuple #[.agg (kS.v D.zK), .int .i64 5]) ∧ Below w.heap.size w w' := by
  obtain ⟨W0, hW0⟩ : ∃ W, ((w.alloc (.cells (Nm.nc n) 24)).alloc (.cells (nc t) 28)).alloc (.cells z25 30) = W := ⟨_, rfl⟩
  have f0 : Nm.rd W0 ⟨w.heap.size, 0, none⟩ = some n := by rw [← hW0]; exact Nm.rd_on (Nm.rd_on (Nm.rd_new w _ _ n rfl) (below_alloc_ _ _)) (below_alloc_ _ _)
  have g0 : rd W0 ⟨w.heap.size + 1, 0, none⟩ = some t := by rw [← hW0]; exact rd_on (rd_new _ _ _ t (by simp)) (below_alloc_ _ _)
  have k0 : Shp.tn 25 W0 (w.heap.size + 2) = true := by rw [← hW0]; exact Shp.tn_new _ _ _ _ _ (by simp) rfl
  have s0 : w.heap.size + 2 < W0.heap.size := by rw [← hW0]; simp
  have z0 : Below w.heap.size w W0 := by rw [← hW0]; exact (((Below.refl _ _).alloc (Nat.le_refl _) _).alloc (by simp) _).alloc (by simp; omega) _
  have CU := Lib.hid (fun w => (show Calls Tryz.prog 74 #[.int .i64 2] w fun e w' => e = .returned (.tuple #[.agg #[.int .i64 16, .bool false, .bool false], .bool true]) ∧ Below w.heap.size w w' from useOf_any 2 w))
  have CP := Lib.hid (fun w => (show Calls Tryz.prog 75 #[.int .i64 p, .int .i64 4] w fun e w' => e = .returned (.bool false) ∧ w = w' from by have := below_num p 4 w; rwa [decide_eq_false (by omega)] at this))
  clear cT hp
  go_enter Tryz.func45, Tryz.ntmps45
  unfold z25 at hW0
  go_wp2_with fail
  try rw [hW0]
  clear hW0
  go_wp2_with (go_at_call 74; (with_reducible refine (CU.out _).mono ?_); rintro e w1 ⟨rfl, b1⟩; have k0 := Shp.tn_on k0 b1; have s1 := Nat.lt_of_lt_of_le s0 b1.size; have z1 := below_up z0 z0.size b1; have f0 := Nm.rd_on f0 b1; have g0 := rd_on g0 b1)
  obtain ⟨W1, hW1⟩ : ∃ W, w1.alloc (.cells #[.int .i64 16, .bool false, .bool false] 135) = W := ⟨_, rfl⟩
  have B1 := Blk.new w1 135 #[.int .i64 16, .bool false, .bool false]
  have k1 := Shp.tn_on k0 (below_alloc_ w1 (.cells #[.int .i64 16, .bool false, .bool false] 135))
  have f1 := Nm.rd_on f0 (below_alloc_ w1 (.cells #[.int .i64 16, .bool false, .bool false] 135))
  have g1 := rd_on g0 (below_alloc_ w1 (.cells #[.int .i64 16, .bool false, .bool false] 135))
  have z1' := z1.alloc z1.size (.cells #[.int .i64 16, .bool false, .bool false] 135)
  have s1' : w1.heap.size < (w1.alloc (.cells #[.int .i64 16, .bool false, .bool false] 135)).heap.size := by simp
  rw [hW1] at B1 k1 f1 g1 z1' s1'
  rw [hW1]
  clear hW1 k0 f0 g0 z1 s0 z0
  obtain ⟨m, hm⟩ : ∃ m, w1.heap.size = m := ⟨_, rfl⟩
  rw [hm] at B1 s1 s1'
  rw [hm]
  clear hm b1
  have q1 : w.heap.size + 2 < W1.heap.size := by omega
  have r1 : w.heap.size + 1 < W1.heap.size := by omega
  have t1 : w.heap.size < W1.heap.size := by omega
  have u0 := B1.c 0
  have u1 := B1.c 1
  have u2 := B1.c 2
  simp at u0 u1 u2
  go_wp2_with (first
    | (go_at_call 75; (with_reducible refine (CP.out _).mono ?_); rintro e w2 ⟨rfl, rfl⟩))
  have hset := Shp.rd_set (S := kS) W1 (w.heap.size + 2) D.zK k1
  have z9 := below_setRow z1' (g := w.heap.size + 2) (by omega) (kS.v D.zK)
  exact bodyPost_ret (v := .tuple #[.agg (kS.v D.zK), .int .i64 5]) (by rw [results_cell_tmp rfl]; simp [asAddr, Result.andThen, lvk_of hset]) rfl ⟨rfl, z9⟩

set_option maxHeartbeats 4000000 in
theorem kof_a2 (cT : ∀ (x : D.Tg) (w : World), Calls Tryz.prog 77 #[.agg (nc x)] w fun e w' => e = .returned (.bool (D.right x)) ∧ Below w.heap.size w w') (q : Nat) (hp : q < 4) (a : Int) (ha : ¬ (0 ≤ a ∧ a < 16)) (n : Nm.D.Nm) (t : D.Tg) (w : World) :
    Calls Tryz.prog 45 #[.int .i64 2, .int .i64 (q : Int), .int .i64 a, .agg (Nm.nc n), .agg (nc t)] w fun e w' => e = .returned (.tuple #[.agg (kS.v D.zK), .int .i64 5]) ∧ Below w.heap.size w w' := by
  obtain ⟨W0, hW0⟩ : ∃ W, ((w.alloc (.cells (Nm.nc n) 24)).alloc (.cells (nc t) 28)).alloc (.cells z25 30) = W := ⟨_, rfl⟩
  have f0 : Nm.rd W0 ⟨w.heap.size, 0, none⟩ = some n := by rw [← hW0]; exact Nm.rd_on (Nm.rd_on (Nm.rd_new w _ _ n rfl) (below_alloc_ _ _)) (below_alloc_ _ _)
  have g0 : rd W0 ⟨w.heap.size + 1, 0, none⟩ = some t := by rw [← hW0]; exact rd_on (rd_new _ _ _ t (by simp)) (below_alloc_ _ _)
  have k0 : Shp.tn 25 W0 (w.heap.size + 2) = true := by rw [← hW0]; exact Shp.tn_new _ _ _ _ _ (by simp) rfl
  have s0 : w.heap.size + 2 < W0.heap.size := by rw [← hW0]; simp
  have z0 : Below w.heap.size w W0 := by rw [← hW0]; exact (((Below.refl _ _).alloc (Nat.le_refl _) _).alloc (by simp) _).alloc (by simp; omega) _
  have CU := Lib.hid (fun w => (show Calls Tryz.prog 74 #[.int .i64 2] w fun e w' => e = .returned (.tuple #[.agg #[.int .i64 16, .bool false, .bool false], .bool true]) ∧ Below w.heap.size w w' from useOf_any 2 w))
  have CP := Lib.hid (fun w => (show Calls Tryz.prog 75 #[.int .i64 (q : Int), .int .i64 4] w fun e w' => e = .returned (.bool true) ∧ w = w' from by have := below_num (q : Int) 4 w; rwa [decide_eq_true (by omega)] at this))
  have CA := Lib.hid (fun w => (show Calls Tryz.prog 75 #[.int .i64 a, .int .i64 16] w fun e w' => e = .returned (.bool false) ∧ w = w' from by have := below_num a 16 w; rwa [decide_eq_false (by omega)] at this))
  have hb : ∀ W, (bdk #[(0, .int .u8 2), (1, .int .u8 (q : Int))]).run Tryz.prog W = .ok (.agg (kS.v (D.mkK 2 q 0 Nm.D.zero D.zero))) W := fun W => run_bdk_2 W 2 q (by omega) (by omega)
  have hq : q % 256 = q := Nat.mod_eq_of_lt (by omega)
  have hqi : (q : Int) % 256 = q := by omega
  clear cT hp ha
  go_enter Tryz.func45, Tryz.ntmps45
  unfold z25 at hW0
  go_wp2_with fail
  try rw [hW0]
  clear hW0
  go_wp2_with (go_at_call 74; (with_reducible refine (CU.out _).mono ?_); rintro e w1 ⟨rfl, b1⟩; have k0 := Shp.tn_on k0 b1; have s1 := Nat.lt_of_lt_of_le s0 b1.size; have z1 := below_up z0 z0.size b1; have f0 := Nm.rd_on f0 b1; have g0 := rd_on g0 b1)
  obtain ⟨W1, hW1⟩ : ∃ W, w1.alloc (.cells #[.int .i64 16, .bool false, .bool false] 135) = W := ⟨_, rfl⟩
  have B1 := Blk.new w1 135 #[.int .i64 16, .bool false, .bool false]
  have k1 := Shp.tn_on k0 (below_alloc_ w1 (.cells #[.int .i64 16, .bool false, .bool false] 135))
  have f1 := Nm.rd_on f0 (below_alloc_ w1 (.cells #[.int .i64 16, .bool false, .bool false] 135))
  have g1 := rd_on g0 (below_alloc_ w1 (.cells #[.int .i64 16, .bool false, .bool false] 135))
  have z1' := z1.alloc z1.size (.cells #[.int .i64 16, .bool false, .bool false] 135)
  have s1' : w1.heap.size < (w1.alloc (.cells #[.int .i64 16, .bool false, .bool false] 135)).heap.size := by simp
  rw [hW1] at B1 k1 f1 g1 z1' s1'
  rw [hW1]
  clear hW1 k0 f0 g0 z1 s0 z0
  obtain ⟨m, hm⟩ : ∃ m, w1.heap.size = m := ⟨_, rfl⟩
  rw [hm] at B1 s1 s1'
  rw [hm]
  clear hm b1
  have q1 : w.heap.size + 2 < W1.heap.size := by omega
  have r1 : w.heap.size + 1 < W1.heap.size := by omega
  have t1 : w.heap.size < W1.heap.size := by omega
  have u0 := B1.c 0
  have u1 := B1.c 1
  have u2 := B1.c 2
  simp at u0 u1 u2
  go_wp2_with (first
    | (go_at_call 75; (with_reducible refine (CP.out _).mono ?_); rintro e w2 ⟨rfl, rfl⟩)
    | (go_at_call 75; (with_reducible refine (CA.out _).mono ?_); rintro e w3 ⟨rfl, rfl⟩))
  have hset := Shp.rd_set (S := kS) W1 (w.heap.size + 2) D.zK k1
  have z9 := below_setRow z1' (g := w.heap.size + 2) (by omega) (kS.v D.zK)
  exact bodyPost_ret (v := .tuple #[.agg (kS.v D.zK), .int .i64 5]) (by rw [results_cell_tmp rfl]; simp [asAddr, Result.andThen, lvk_of hset]) rfl ⟨rfl, z9⟩

set_option maxHeartbeats 4000000 in
theorem kof_ok2 (cT : ∀ (x : D.Tg) (w : World), Calls Tryz.prog 77 #[.agg (nc x)] w fun e w' => e = .returned (.bool (D.right x)) ∧ Below w.heap.size w w') (q : Nat) (hp : q < 4) (b : Nat) (ha : b < 16) (n : Nm.D.Nm) (t : D.Tg) (w : World) :
    Calls Tryz.prog 45 #[.int .i64 2, .int .i64 (q : Int), .int .i64 (b : Int), .agg (Nm.nc n), .agg (nc t)] w fun e w' => e = .returned (.tuple #[.agg (kS.v (D.mkK 2 q b Nm.D.zero D.zero)), .int .i64 0]) ∧ Below w.heap.size w w' := by
  obtain ⟨W0, hW0⟩ : ∃ W, ((w.alloc (.cells (Nm.nc n) 24)).alloc (.cells (nc t) 28)).alloc (.cells z25 30) = W := ⟨_, rfl⟩
  have f0 : Nm.rd W0 ⟨w.heap.size, 0, none⟩ = some n := by rw [← hW0]; exact Nm.rd_on (Nm.rd_on (Nm.rd_new w _ _ n rfl) (below_alloc_ _ _)) (below_alloc_ _ _)
  have g0 : rd W0 ⟨w.heap.size + 1, 0, none⟩ = some t := by rw [← hW0]; exact rd_on (rd_new _ _ _ t (by simp)) (below_alloc_ _ _)
  have k0 : Shp.tn 25 W0 (w.heap.size + 2) = true := by rw [← hW0]; exact Shp.tn_new _ _ _ _ _ (by simp) rfl
  have s0 : w.heap.size + 2 < W0.heap.size := by rw [← hW0]; simp
  have z0 : Below w.heap.size w W0 := by rw [← hW0]; exact (((Below.refl _ _).alloc (Nat.le_refl _) _).alloc (by simp) _).alloc (by simp; omega) _
  have CU := Lib.hid (fun w => (show Calls Tryz.prog 74 #[.int .i64 2] w fun e w' => e = .returned (.tuple #[.agg #[.int .i64 16, .bool false, .bool false], .bool true]) ∧ Below w.heap.size w w' from useOf_any 2 w))
  have CP := Lib.hid (fun w => (show Calls Tryz.prog 75 #[.int .i64 (q : Int), .int .i64 4] w fun e w' => e = .returned (.bool true) ∧ w = w' from by have := below_num (q : Int) 4 w; rwa [decide_eq_true (by omega)] at this))
  have CA := Lib.hid (fun w => (show Calls Tryz.prog 75 #[.int .i64 (b : Int), .int .i64 16] w fun e w' => e = .returned (.bool true) ∧ w = w' from by have := below_num (b : Int) 16 w; rwa [decide_eq_true (by omega)] at this))
  have hb : ∀ W, (bdk #[(0, .int .u8 2), (1, .int .u8 (q : Int))]).run Tryz.prog W = .ok (.agg (kS.v (D.mkK 2 q 0 Nm.D.zero D.zero))) W := fun W => run_bdk_2 W 2 q (by omega) (by omega)
  have hq : q % 256 = q := Nat.mod_eq_of_lt (by omega)
  have hqi : (q : Int) % 256 = q := by omega
  have hbi : (b : Int) % 256 = b := by omega
  have hs := fun (n : Nm.D.Nm) (t : D.Tg) => kset_a 2 q 0 n t b (by omega)
  clear cT hp ha
  go_enter Tryz.func45, Tryz.ntmps45
  unfold z25 at hW0
  go_wp2_with fail
  try rw [hW0]
  clear hW0
  go_wp2_with (go_at_call 74; (with_reducible refine (CU.out _).mono ?_); rintro e w1 ⟨rfl, b1⟩; have k0 := Shp.tn_on k0 b1; have s1 := Nat.lt_of_lt_of_le s0 b1.size; have z1 := below_up z0 z0.size b1; have f0 := Nm.rd_on f0 b1; have g0 := rd_on g0 b1)
  obtain ⟨W1, hW1⟩ : ∃ W, w1.alloc (.cells #[.int .i64 16, .bool false, .bool false] 135) = W := ⟨_, rfl⟩
  have B1 := Blk.new w1 135 #[.int .i64 16, .bool false, .bool false]
  have k1 := Shp.tn_on k0 (below_alloc_ w1 (.cells #[.int .i64 16, .bool false, .bool false] 135))
  have f1 := Nm.rd_on f0 (below_alloc_ w1 (.cells #[.int .i64 16, .bool false, .bool false] 135))
  have g1 := rd_on g0 (below_alloc_ w1 (.cells #[.int .i64 16, .bool false, .bool false] 135))
  have z1' := z1.alloc z1.size (.cells #[.int .i64 16, .bool false, .bool false] 135)
  have s1' : w1.heap.size < (w1.alloc (.cells #[.int .i64 16, .bool false, .bool false] 135)).heap.size := by simp
  rw [hW1] at B1 k1 f1 g1 z1' s1'
  rw [hW1]
  clear hW1 k0 f0 g0 z1 s0 z0
  obtain ⟨m, hm⟩ : ∃ m, w1.heap.size = m := ⟨_, rfl⟩
  rw [hm] at B1 s1 s1'
  rw [hm]
  clear hm b1
  have q1 : w.heap.size + 2 < W1.heap.size := by omega
  have r1 : w.heap.size + 1 < W1.heap.size := by omega
  have t1 : w.heap.size < W1.heap.size := by omega
  have u0 := B1.c 0
  have u1 := B1.c 1
  have u2 := B1.c 2
  simp at u0 u1 u2
  go_wp2_with (first
    | (go_at_call 75; (with_reducible refine (CP.out _).mono ?_); rintro e w2 ⟨rfl, rfl⟩)
    | (go_at_call 75; (with_reducible refine (CA.out _).mono ?_); rintro e w3 ⟨rfl, rfl⟩))
  have hset := Shp.rd_set (S := kS) (W1.alloc (.cells (kS.v (D.mkK 2 q b Nm.D.zero D.zero)) 30)) (w.heap.size + 2) (D.mkK 2 q b Nm.D.zero D.zero) (Shp.tn_on k1 (below_alloc_ _ _))
  have z9 := below_setRow (z1'.alloc z1'.size (.cells (kS.v (D.mkK 2 q b Nm.D.zero D.zero)) 30)) (g := w.heap.size + 2) (by omega) (kS.v (D.mkK 2 q b Nm.D.zero D.zero))
  exact bodyPost_ret (v := .tuple #[.agg (kS.v (D.mkK 2 q b Nm.D.zero D.zero)), .int .i64 0]) (by rw [results_cell_tmp rfl]; simp [asAddr, Result.andThen, lvk_of hset]) rfl ⟨rfl, z9⟩

set_option maxHeartbeats 4000000 in
theorem kof_p3 (cT : ∀ (x : D.Tg) (w : World), Calls Tryz.prog 77 #[.agg (nc x)] w fun e w' => e = .returned (.bool (D.right x)) ∧ Below w.heap.size w w') (p : Int) (hp : ¬ (0 ≤ p ∧ p < 4)) (a : Int) (n : Nm.D.Nm) (t : D.Tg) (w : World) :
    Calls Tryz.prog 45 #[.int .i64 3, .int .i64 p, .int .i64 a, .agg (Nm.nc n), .agg (nc t)] w fun e w' => e = .returned (.tuple #[.agg (kS.v D.zK), .int .i64 5]) ∧ Below w.heap.size w w' := by
  obtain ⟨W0, hW0⟩ : ∃ W, ((w.alloc (.cells (Nm.nc n) 24)).alloc (.cells (nc t) 28)).alloc (.cells z25 30) = W := ⟨_, rfl⟩
  have f0 : Nm.rd W0 ⟨w.heap.size, 0, none⟩ = some n := by rw [← hW0]; exact Nm.rd_on (Nm.rd_on (Nm.rd_new w _ _ n rfl) (below_alloc_ _ _)) (below_alloc_ _ _)
  have g0 : rd W0 ⟨w.heap.size + 1, 0, none⟩ = some t := by rw [← hW0]; exact rd_on (rd_new _ _ _ t (by simp)) (below_alloc_ _ _)
  have k0 : Shp.tn 25 W0 (w.heap.size + 2) = true := by rw [← hW0]; exact Shp.tn_new _ _ _ _ _ (by simp) rfl
  have s0 : w.heap.size + 2 < W0.heap.size := by rw [← hW0]; simp
  have z0 : Below w.heap.size w W0 := by rw [← hW0]; exact (((Below.refl _ _).alloc (Nat.le_refl _) _).alloc (by simp) _).alloc (by simp; omega) _
  have CU := Lib.hid (fun w => (show Calls Tryz.prog 74 #[.int .i64 3] w fun e w' => e = .returned (.tuple #[.agg #[.int .i64 0, .bool false, .bool true], .bool true]) ∧ Below w.heap.size w w' from useOf_any 3 w))
  have CP := Lib.hid (fun w => (show Calls Tryz.prog 75 #[.int .i64 p, .int .i64 4] w fun e w' => e = .returned (.bool false) ∧ w = w' from by have := below_num p 4 w; rwa [decide_eq_false (by omega)] at this))
  clear cT hp
  go_enter Tryz.func45, Tryz.ntmps45
  unfold z25 at hW0
  go_wp2_with fail
  try rw [hW0]
  clear hW0
  go_wp2_with (go_at_call 74; (with_reducible refine (CU.out _).mono ?_); rintro e w1 ⟨rfl, b1⟩; have k0 := Shp.tn_on k0 b1; have s1 := Nat.lt_of_lt_of_le s0 b1.size; have z1 := below_up z0 z0.size b1; have f0 := Nm.rd_on f0 b1; have g0 := rd_on g0 b1)
  obtain ⟨W1, hW1⟩ : ∃ W, w1.alloc (.cells #[.int .i64 0, .bool false, .bool true] 135) = W := ⟨_, rfl⟩
  have B1 := Blk.new w1 135 #[.int .i64 0, .bool false, .bool true]
  have k1 := Shp.tn_on k0 (below_alloc_ w1 (.cells #[.int .i64 0, .bool false, .bool true] 135))
  have f1 := Nm.rd_on f0 (below_alloc_ w1 (.cells #[.int .i64 0, .bool false, .bool true] 135))
  have g1 := rd_on g0 (below_alloc_ w1 (.cells #[.int .i64 0, .bool false, .bool true] 135))
  have z1' := z1.alloc z1.size (.cells #[.int .i64 0, .bool false, .bool true] 135)
  have s1' : w1.heap.size < (w1.alloc (.cells #[.int .i64 0, .bool false, .bool true] 135)).heap.size := by simp
  rw [hW1] at B1 k1 f1 g1 z1' s1'
  rw [hW1]
  clear hW1 k0 f0 g0 z1 s0 z0
  obtain ⟨m, hm⟩ : ∃ m, w1.heap.size = m := ⟨_, rfl⟩
  rw [hm] at B1 s1 s1'
  rw [hm]
  clear hm b1
  have q1 : w.heap.size + 2 < W1.heap.size := by omega
  have r1 : w.heap.size + 1 < W1.heap.size := by omega
  have t1 : w.heap.size < W1.heap.size := by omega
  have u0 := B1.c 0
  have u1 := B1.c 1
  have u2 := B1.c 2
  simp at u0 u1 u2
  go_wp2_with (first
    | (go_at_call 75; (with_reducible refine (CP.out _).mono ?_); rintro e w2 ⟨rfl, rfl⟩))
  have hset := Shp.rd_set (S := kS) W1 (w.heap.size + 2) D.zK k1
  have z9 := below_setRow z1' (g := w.heap.size + 2) (by omega) (kS.v D.zK)
  exact bodyPost_ret (v := .tuple #[.agg (kS.v D.zK), .int .i64 5]) (by rw [results_cell_tmp rfl]; simp [asAddr, Result.andThen, lvk_of hset]) rfl ⟨rfl, z9⟩

set_option maxHeartbeats 4000000 in
theorem kof_z3 (cT : ∀ (x : D.Tg) (w : World), Calls Tryz.prog 77 #[.agg (nc x)] w fun e w' => e = .returned (.bool (D.right x)) ∧ Below w.heap.size w w') (q : Nat) (hp : q < 4) (a : Int) (n : Nm.D.Nm) (t : D.Tg) (ht : sm t D.zero = true) (w : World) :
    Calls Tryz.prog 45 #[.int .i64 3, .int .i64 (q : Int), .int .i64 a, .agg (Nm.nc n), .agg (nc t)] w fun e w' => e = .returned (.tuple #[.agg (kS.v D.zK), .int .i64 14]) ∧ Below w.heap.size w w' := by
  obtain ⟨W0, hW0⟩ : ∃ W, ((w.alloc (.cells (Nm.nc n) 24)).alloc (.cells (nc t) 28)).alloc (.cells z25 30) = W := ⟨_, rfl⟩
  have f0 : Nm.rd W0 ⟨w.heap.size, 0, none⟩ = some n := by rw [← hW0]; exact Nm.rd_on (Nm.rd_on (Nm.rd_new w _ _ n rfl) (below_alloc_ _ _)) (below_alloc_ _ _)
  have g0 : rd W0 ⟨w.heap.size + 1, 0, none⟩ = some t := by rw [← hW0]; exact rd_on (rd_new _ _ _ t (by simp)) (below_alloc_ _ _)
  have k0 : Shp.tn 25 W0 (w.heap.size + 2) = true := by rw [← hW0]; exact Shp.tn_new _ _ _ _ _ (by simp) rfl
  have s0 : w.heap.size + 2 < W0.heap.size := by rw [← hW0]; simp
  have z0 : Below w.heap.size w W0 := by rw [← hW0]; exact (((Below.refl _ _).alloc (Nat.le_refl _) _).alloc (by simp) _).alloc (by simp; omega) _
  have CU := Lib.hid (fun w => (show Calls Tryz.prog 74 #[.int .i64 3] w fun e w' => e = .returned (.tuple #[.agg #[.int .i64 0, .bool false, .bool true], .bool true]) ∧ Below w.heap.size w w' from useOf_any 3 w))
  have CP := Lib.hid (fun w => (show Calls Tryz.prog 75 #[.int .i64 (q : Int), .int .i64 4] w fun e w' => e = .returned (.bool true) ∧ w = w' from by have := below_num (q : Int) 4 w; rwa [decide_eq_true (by omega)] at this))
  have hb : ∀ W, (bdk #[(0, .int .u8 3), (1, .int .u8 (q : Int))]).run Tryz.prog W = .ok (.agg (kS.v (D.mkK 3 q 0 Nm.D.zero D.zero))) W := fun W => run_bdk_2 W 3 q (by omega) (by omega)
  have hq : q % 256 = q := Nat.mod_eq_of_lt (by omega)
  have hqi : (q : Int) % 256 = q := by omega
  clear cT hp
  go_enter Tryz.func45, Tryz.ntmps45
  unfold z25 at hW0
  go_wp2_with fail
  try rw [hW0]
  clear hW0
  go_wp2_with (go_at_call 74; (with_reducible refine (CU.out _).mono ?_); rintro e w1 ⟨rfl, b1⟩; have k0 := Shp.tn_on k0 b1; have s1 := Nat.lt_of_lt_of_le s0 b1.size; have z1 := below_up z0 z0.size b1; have f0 := Nm.rd_on f0 b1; have g0 := rd_on g0 b1)
  obtain ⟨W1, hW1⟩ : ∃ W, w1.alloc (.cells #[.int .i64 0, .bool false, .bool true] 135) = W := ⟨_, rfl⟩
  have B1 := Blk.new w1 135 #[.int .i64 0, .bool false, .bool true]
  have k1 := Shp.tn_on k0 (below_alloc_ w1 (.cells #[.int .i64 0, .bool false, .bool true] 135))
  have f1 := Nm.rd_on f0 (below_alloc_ w1 (.cells #[.int .i64 0, .bool false, .bool true] 135))
  have g1 := rd_on g0 (below_alloc_ w1 (.cells #[.int .i64 0, .bool false, .bool true] 135))
  have z1' := z1.alloc z1.size (.cells #[.int .i64 0, .bool false, .bool true] 135)
  have s1' : w1.heap.size < (w1.alloc (.cells #[.int .i64 0, .bool false, .bool true] 135)).heap.size := by simp
  rw [hW1] at B1 k1 f1 g1 z1' s1'
  rw [hW1]
  clear hW1 k0 f0 g0 z1 s0 z0
  obtain ⟨m, hm⟩ : ∃ m, w1.heap.size = m := ⟨_, rfl⟩
  rw [hm] at B1 s1 s1'
  rw [hm]
  clear hm b1
  have q1 : w.heap.size + 2 < W1.heap.size := by omega
  have r1 : w.heap.size + 1 < W1.heap.size := by omega
  have t1 : w.heap.size < W1.heap.size := by omega
  have u0 := B1.c 0
  have u1 := B1.c 1
  have u2 := B1.c 2
  simp at u0 u1 u2
  go_wp2_with (first
    | (go_at_call 75; (with_reducible refine (CP.out _).mono ?_); rintro e w2 ⟨rfl, rfl⟩))
  have hset := Shp.rd_set (S := kS) W1 (w.heap.size + 2) D.zK k1
  have z9 := below_setRow z1' (g := w.heap.size + 2) (by omega) (kS.v D.zK)
  exact bodyPost_ret (v := .tuple #[.agg (kS.v D.zK), .int .i64 14]) (by rw [results_cell_tmp rfl]; simp [asAddr, Result.andThen, lvk_of hset]) rfl ⟨rfl, z9⟩

set_option maxHeartbeats 4000000 in
theorem kof_w3 (cT : ∀ (x : D.Tg) (w : World), Calls Tryz.prog 77 #[.agg (nc x)] w fun e w' => e = .returned (.bool (D.right x)) ∧ Below w.heap.size w w') (q : Nat) (hp : q < 4) (a : Int) (n : Nm.D.Nm) (t : D.Tg) (ht : sm t D.zero = false) (hr : D.right t = false) (w : World) :
    Calls Tryz.prog 45 #[.int .i64 3, .int .i64 (q : Int), .int .i64 a, .agg (Nm.nc n), .agg (nc t)] w fun e w' => e = .returned (.tuple #[.agg (kS.v D.zK), .int .i64 14]) ∧ Below w.heap.size w w' := by
  obtain ⟨W0, hW0⟩ : ∃ W, ((w.alloc (.cells (Nm.nc n) 24)).alloc (.cells (nc t) 28)).alloc (.cells z25 30) = W := ⟨_, rfl⟩
  have f0 : Nm.rd W0 ⟨w.heap.size, 0, none⟩ = some n := by rw [← hW0]; exact Nm.rd_on (Nm.rd_on (Nm.rd_new w _ _ n rfl) (below_alloc_ _ _)) (below_alloc_ _ _)
  have g0 : rd W0 ⟨w.heap.size + 1, 0, none⟩ = some t := by rw [← hW0]; exact rd_on (rd_new _ _ _ t (by simp)) (below_alloc_ _ _)
  have k0 : Shp.tn 25 W0 (w.heap.size + 2) = true := by rw [← hW0]; exact Shp.tn_new _ _ _ _ _ (by simp) rfl
  have s0 : w.heap.size + 2 < W0.heap.size := by rw [← hW0]; simp
  have z0 : Below w.heap.size w W0 := by rw [← hW0]; exact (((Below.refl _ _).alloc (Nat.le_refl _) _).alloc (by simp) _).alloc (by simp; omega) _
  have CU := Lib.hid (fun w => (show Calls Tryz.prog 74 #[.int .i64 3] w fun e w' => e = .returned (.tuple #[.agg #[.int .i64 0, .bool false, .bool true], .bool true]) ∧ Below w.heap.size w w' from useOf_any 3 w))
  have CP := Lib.hid (fun w => (show Calls Tryz.prog 75 #[.int .i64 (q : Int), .int .i64 4] w fun e w' => e = .returned (.bool true) ∧ w = w' from by have := below_num (q : Int) 4 w; rwa [decide_eq_true (by omega)] at this))
  have CT := Lib.hid (fun w => (show Calls Tryz.prog 77 #[.agg (nc t)] w fun e w' => e = .returned (.bool false) ∧ Below w.heap.size w w' from by have := cT t w; rwa [hr] at this))
  have hb : ∀ W, (bdk #[(0, .int .u8 3), (1, .int .u8 (q : Int))]).run Tryz.prog W = .ok (.agg (kS.v (D.mkK 3 q 0 Nm.D.zero D.zero))) W := fun W => run_bdk_2 W 3 q (by omega) (by omega)
  have hq : q % 256 = q := Nat.mod_eq_of_lt (by omega)
  have hqi : (q : Int) % 256 = q := by omega
  clear cT hp hr
  go_enter Tryz.func45, Tryz.ntmps45
  unfold z25 at hW0
  go_wp2_with fail
  try rw [hW0]
  clear hW0
  go_wp2_with (go_at_call 74; (with_reducible refine (CU.out _).mono ?_); rintro e w1 ⟨rfl, b1⟩; have k0 := Shp.tn_on k0 b1; have s1 := Nat.lt_of_lt_of_le s0 b1.size; have z1 := below_up z0 z0.size b1; have f0 := Nm.rd_on f0 b1; have g0 := rd_on g0 b1)
  obtain ⟨W1, hW1⟩ : ∃ W, w1.alloc (.cells #[.int .i64 0, .bool false, .bool true] 135) = W := ⟨_, rfl⟩
  have B1 := Blk.new w1 135 #[.int .i64 0, .bool false, .bool true]
  have k1 := Shp.tn_on k0 (below_alloc_ w1 (.cells #[.int .i64 0, .bool false, .bool true] 135))
  have f1 := Nm.rd_on f0 (below_alloc_ w1 (.cells #[.int .i64 0, .bool false, .bool true] 135))
  have g1 := rd_on g0 (below_alloc_ w1 (.cells #[.int .i64 0, .bool false, .bool true] 135))
  have z1' := z1.alloc z1.size (.cells #[.int .i64 0, .bool false, .bool true] 135)
  have s1' : w1.heap.size < (w1.alloc (.cells #[.int .i64 0, .bool false, .bool true] 135)).heap.size := by simp
  rw [hW1] at B1 k1 f1 g1 z1' s1'
  rw [hW1]
  clear hW1 k0 f0 g0 z1 s0 z0
  obtain ⟨m, hm⟩ : ∃ m, w1.heap.size = m := ⟨_, rfl⟩
  rw [hm] at B1 s1 s1'
  rw [hm]
  clear hm b1
  have q1 : w.heap.size + 2 < W1.heap.size := by omega
  have r1 : w.heap.size + 1 < W1.heap.size := by omega
  have t1 : w.heap.size < W1.heap.size := by omega
  have u0 := B1.c 0
  have u1 := B1.c 1
  have u2 := B1.c 2
  simp at u0 u1 u2
  go_wp2_with (first
    | (go_at_call 75; (with_reducible refine (CP.out _).mono ?_); rintro e w2 ⟨rfl, rfl⟩)
    | (go_at_call 77; (with_reducible refine (CT.out _).mono ?_); rintro e w5 ⟨rfl, b5⟩; have B5 := B1.on b5; have k5 := Shp.tn_on k1 b5; have f5 := Nm.rd_on f1 b5; have g5 := rd_on g1 b5; have z5' := below_up z1' z1'.size b5; have s5' := Nat.lt_of_lt_of_le s1' b5.size; have q5 := Nat.lt_of_lt_of_le q1 b5.size; have r5 := Nat.lt_of_lt_of_le r1 b5.size; have t5 := Nat.lt_of_lt_of_le t1 b5.size; have v0 := B5.c 0; have v1 := B5.c 1; have v2 := B5.c 2; simp at v0 v1 v2))
  have hset := Shp.rd_set (S := kS) w5 (w.heap.size + 2) D.zK k5
  have z9 := below_setRow z5' (g := w.heap.size + 2) (by omega) (kS.v D.zK)
  exact bodyPost_ret (v := .tuple #[.agg (kS.v D.zK), .int .i64 14]) (by rw [results_cell_tmp rfl]; simp [asAddr, Result.andThen, lvk_of hset]) rfl ⟨rfl, z9⟩

set_option maxHeartbeats 4000000 in
theorem kof_ok3 (cT : ∀ (x : D.Tg) (w : World), Calls Tryz.prog 77 #[.agg (nc x)] w fun e w' => e = .returned (.bool (D.right x)) ∧ Below w.heap.size w w') (q : Nat) (hp : q < 4) (a : Int) (n : Nm.D.Nm) (t : D.Tg) (ht : sm t D.zero = false) (hr : D.right t = true) (w : World) :
    Calls Tryz.prog 45 #[.int .i64 3, .int .i64 (q : Int), .int .i64 a, .agg (Nm.nc n), .agg (nc t)] w fun e w' => e = .returned (.tuple #[.agg (kS.v (D.mkK 3 q 0 Nm.D.zero t)), .int .i64 0]) ∧ Below w.heap.size w w' := by
  obtain ⟨W0, hW0⟩ : ∃ W, ((w.alloc (.cells (Nm.nc n) 24)).alloc (.cells (nc t) 28)).alloc (.cells z25 30) = W := ⟨_, rfl⟩
  have f0 : Nm.rd W0 ⟨w.heap.size, 0, none⟩ = some n := by rw [← hW0]; exact Nm.rd_on (Nm.rd_on (Nm.rd_new w _ _ n rfl) (below_alloc_ _ _)) (below_alloc_ _ _)
  have g0 : rd W0 ⟨w.heap.size + 1, 0, none⟩ = some t := by rw [← hW0]; exact rd_on (rd_new _ _ _ t (by simp)) (below_alloc_ _ _)
  have k0 : Shp.tn 25 W0 (w.heap.size + 2) = true := by rw [← hW0]; exact Shp.tn_new _ _ _ _ _ (by simp) rfl
  have s0 : w.heap.size + 2 < W0.heap.size := by rw [← hW0]; simp
  have z0 : Below w.heap.size w W0 := by rw [← hW0]; exact (((Below.refl _ _).alloc (Nat.le_refl _) _).alloc (by simp) _).alloc (by simp; omega) _
  have CU := Lib.hid (fun w => (show Calls Tryz.prog 74 #[.int .i64 3] w fun e w' => e = .returned (.tuple #[.agg #[.int .i64 0, .bool false, .bool true], .bool true]) ∧ Below w.heap.size w w' from useOf_any 3 w))
  have CP := Lib.hid (fun w => (show Calls Tryz.prog 75 #[.int .i64 (q : Int), .int .i64 4] w fun e w' => e = .returned (.bool true) ∧ w = w' from by have := below_num (q : Int) 4 w; rwa [decide_eq_true (by omega)] at this))
  have CT := Lib.hid (fun w => (show Calls Tryz.prog 77 #[.agg (nc t)] w fun e w' => e = .returned (.bool true) ∧ Below w.heap.size w w' from by have := cT t w; rwa [hr] at this))
  have hb : ∀ W, (bdk #[(0, .int .u8 3), (1, .int .u8 (q : Int))]).run Tryz.prog W = .ok (.agg (kS.v (D.mkK 3 q 0 Nm.D.zero D.zero))) W := fun W => run_bdk_2 W 3 q (by omega) (by omega)
  have hq : q % 256 = q := Nat.mod_eq_of_lt (by omega)
  have hqi : (q : Int) % 256 = q := by omega
  clear cT hp hr
  go_enter Tryz.func45, Tryz.ntmps45
  unfold z25 at hW0
  go_wp2_with fail
  try rw [hW0]
  clear hW0
  go_wp2_with (go_at_call 74; (with_reducible refine (CU.out _).mono ?_); rintro e w1 ⟨rfl, b1⟩; have k0 := Shp.tn_on k0 b1; have s1 := Nat.lt_of_lt_of_le s0 b1.size; have z1 := below_up z0 z0.size b1; have f0 := Nm.rd_on f0 b1; have g0 := rd_on g0 b1)
  obtain ⟨W1, hW1⟩ : ∃ W, w1.alloc (.cells #[.int .i64 0, .bool false, .bool true] 135) = W := ⟨_, rfl⟩
  have B1 := Blk.new w1 135 #[.int .i64 0, .bool false, .bool true]
  have k1 := Shp.tn_on k0 (below_alloc_ w1 (.cells #[.int .i64 0, .bool false, .bool true] 135))
  have f1 := Nm.rd_on f0 (below_alloc_ w1 (.cells #[.int .i64 0, .bool false, .bool true] 135))
  have g1 := rd_on g0 (below_alloc_ w1 (.cells #[.int .i64 0, .bool false, .bool true] 135))
  have z1' := z1.alloc z1.size (.cells #[.int .i64 0, .bool false, .bool true] 135)
  have s1' : w1.heap.size < (w1.alloc (.cells #[.int .i64 0, .bool false, .bool true] 135)).heap.size := by simp
  rw [hW1] at B1 k1 f1 g1 z1' s1'
  rw [hW1]
  clear hW1 k0 f0 g0 z1 s0 z0
  obtain ⟨m, hm⟩ : ∃ m, w1.heap.size = m := ⟨_, rfl⟩
  rw [hm] at B1 s1 s1'
  rw [hm]
  clear hm b1
  have q1 : w.heap.size + 2 < W1.heap.size := by omega
  have r1 : w.heap.size + 1 < W1.heap.size := by omega
  have t1 : w.heap.size < W1.heap.size := by omega
  have u0 := B1.c 0
  have u1 := B1.c 1
  have u2 := B1.c 2
  simp at u0 u1 u2
  go_wp2_with (first
    | (go_at_call 75; (with_reducible refine (CP.out _).mono ?_); rintro e w2 ⟨rfl, rfl⟩)
    | (go_at_call 77; (with_reducible refine (CT.out _).mono ?_); rintro e w5 ⟨rfl, b5⟩; have B5 := B1.on b5; have k5 := Shp.tn_on k1 b5; have f5 := Nm.rd_on f1 b5; have g5 := rd_on g1 b5; have z5' := below_up z1' z1'.size b5; have s5' := Nat.lt_of_lt_of_le s1' b5.size; have q5 := Nat.lt_of_lt_of_le q1 b5.size; have r5 := Nat.lt_of_lt_of_le r1 b5.size; have t5 := Nat.lt_of_lt_of_le t1 b5.size; have v0 := B5.c 0; have v1 := B5.c 1; have v2 := B5.c 2; simp at v0 v1 v2))
  have hset := Shp.rd_set (S := kS) (w5.alloc (.cells (kS.v (D.mkK 3 q 0 Nm.D.zero t)) 30)) (w.heap.size + 2) (D.mkK 3 q 0 Nm.D.zero t) (Shp.tn_on k5 (below_alloc_ _ _))
  have z9 := below_setRow (z5'.alloc z5'.size (.cells (kS.v (D.mkK 3 q 0 Nm.D.zero t)) 30)) (g := w.heap.size + 2) (by omega) (kS.v (D.mkK 3 q 0 Nm.D.zero t))
  exact bodyPost_ret (v := .tuple #[.agg (kS.v (D.mkK 3 q 0 Nm.D.zero t)), .int .i64 0]) (by rw [results_cell_tmp rfl]; simp [asAddr, Result.andThen, lvk_of hset]) rfl ⟨rfl, z9⟩

set_option maxHeartbeats 4000000 in
theorem kof_p4 (cT : ∀ (x : D.Tg) (w : World), Calls Tryz.prog 77 #[.agg (nc x)] w fun e w' => e = .returned (.bool (D.right x)) ∧ Below w.heap.size w w') (p : Int) (hp : ¬ (0 ≤ p ∧ p < 4)) (a : Int) (n : Nm.D.Nm) (t : D.Tg) (w : World) :
    Calls Tryz.prog 45 #[.int .i64 4, .int .i64 p, .int .i64 a, .agg (Nm.nc n), .agg (nc t)] w fun e w' => e = .returned (.tuple #[.agg (kS.v D.zK), .int .i64 5]) ∧ Below w.heap.size w w' := by
  obtain ⟨W0, hW0⟩ : ∃ W, ((w.alloc (.cells (Nm.nc n) 24)).alloc (.cells (nc t) 28)).alloc (.cells z25 30) = W := ⟨_, rfl⟩
  have f0 : Nm.rd W0 ⟨w.heap.size, 0, none⟩ = some n := by rw [← hW0]; exact Nm.rd_on (Nm.rd_on (Nm.rd_new w _ _ n rfl) (below_alloc_ _ _)) (below_alloc_ _ _)
  have g0 : rd W0 ⟨w.heap.size + 1, 0, none⟩ = some t := by rw [← hW0]; exact rd_on (rd_new _ _ _ t (by simp)) (below_alloc_ _ _)
  have k0 : Shp.tn 25 W0 (w.heap.size + 2) = true := by rw [← hW0]; exact Shp.tn_new _ _ _ _ _ (by simp) rfl
  have s0 : w.heap.size + 2 < W0.heap.size := by rw [← hW0]; simp
  have z0 : Below w.heap.size w W0 := by rw [← hW0]; exact (((Below.refl _ _).alloc (Nat.le_refl _) _).alloc (by simp) _).alloc (by simp; omega) _
  have CU := Lib.hid (fun w => (show Calls Tryz.prog 74 #[.int .i64 4] w fun e w' => e = .returned (.tuple #[.agg #[.int .i64 4, .bool false, .bool false], .bool true]) ∧ Below w.heap.size w w' from useOf_any 4 w))
  have CP := Lib.hid (fun w => (show Calls Tryz.prog 75 #[.int .i64 p, .int .i64 4] w fun e w' => e = .returned (.bool false) ∧ w = w' from by have := below_num p 4 w; rwa [decide_eq_false (by omega)] at this))
  clear cT hp
  go_enter Tryz.func45, Tryz.ntmps45
  unfold z25 at hW0
  go_wp2_with fail
  try rw [hW0]
  clear hW0
  go_wp2_with (go_at_call 74; (with_reducible refine (CU.out _).mono ?_); rintro e w1 ⟨rfl, b1⟩; have k0 := Shp.tn_on k0 b1; have s1 := Nat.lt_of_lt_of_le s0 b1.size; have z1 := below_up z0 z0.size b1; have f0 := Nm.rd_on f0 b1; have g0 := rd_on g0 b1)
  obtain ⟨W1, hW1⟩ : ∃ W, w1.alloc (.cells #[.int .i64 4, .bool false, .bool false] 135) = W := ⟨_, rfl⟩
  have B1 := Blk.new w1 135 #[.int .i64 4, .bool false, .bool false]
  have k1 := Shp.tn_on k0 (below_alloc_ w1 (.cells #[.int .i64 4, .bool false, .bool false] 135))
  have f1 := Nm.rd_on f0 (below_alloc_ w1 (.cells #[.int .i64 4, .bool false, .bool false] 135))
  have g1 := rd_on g0 (below_alloc_ w1 (.cells #[.int .i64 4, .bool false, .bool false] 135))
  have z1' := z1.alloc z1.size (.cells #[.int .i64 4, .bool false, .bool false] 135)
  have s1' : w1.heap.size < (w1.alloc (.cells #[.int .i64 4, .bool false, .bool false] 135)).heap.size := by simp
  rw [hW1] at B1 k1 f1 g1 z1' s1'
  rw [hW1]
  clear hW1 k0 f0 g0 z1 s0 z0
  obtain ⟨m, hm⟩ : ∃ m, w1.heap.size = m := ⟨_, rfl⟩
  rw [hm] at B1 s1 s1'
  rw [hm]
  clear hm b1
  have q1 : w.heap.size + 2 < W1.heap.size := by omega
  have r1 : w.heap.size + 1 < W1.heap.size := by omega
  have t1 : w.heap.size < W1.heap.size := by omega
  have u0 := B1.c 0
  have u1 := B1.c 1
  have u2 := B1.c 2
  simp at u0 u1 u2
  go_wp2_with (first
    | (go_at_call 75; (with_reducible refine (CP.out _).mono ?_); rintro e w2 ⟨rfl, rfl⟩))
  have hset := Shp.rd_set (S := kS) W1 (w.heap.size + 2) D.zK k1
  have z9 := below_setRow z1' (g := w.heap.size + 2) (by omega) (kS.v D.zK)
  exact bodyPost_ret (v := .tuple #[.agg (kS.v D.zK), .int .i64 5]) (by rw [results_cell_tmp rfl]; simp [asAddr, Result.andThen, lvk_of hset]) rfl ⟨rfl, z9⟩

set_option maxHeartbeats 4000000 in
theorem kof_a4 (cT : ∀ (x : D.Tg) (w : World), Calls Tryz.prog 77 #[.agg (nc x)] w fun e w' => e = .returned (.bool (D.right x)) ∧ Below w.heap.size w w') (q : Nat) (hp : q < 4) (a : Int) (ha : ¬ (0 ≤ a ∧ a < 4)) (n : Nm.D.Nm) (t : D.Tg) (w : World) :
    Calls Tryz.prog 45 #[.int .i64 4, .int .i64 (q : Int), .int .i64 a, .agg (Nm.nc n), .agg (nc t)] w fun e w' => e = .returned (.tuple #[.agg (kS.v D.zK), .int .i64 5]) ∧ Below w.heap.size w w' := by
  obtain ⟨W0, hW0⟩ : ∃ W, ((w.alloc (.cells (Nm.nc n) 24)).alloc (.cells (nc t) 28)).alloc (.cells z25 30) = W := ⟨_, rfl⟩
  have f0 : Nm.rd W0 ⟨w.heap.size, 0, none⟩ = some n := by rw [← hW0]; exact Nm.rd_on (Nm.rd_on (Nm.rd_new w _ _ n rfl) (below_alloc_ _ _)) (below_alloc_ _ _)
  have g0 : rd W0 ⟨w.heap.size + 1, 0, none⟩ = some t := by rw [← hW0]; exact rd_on (rd_new _ _ _ t (by simp)) (below_alloc_ _ _)
  have k0 : Shp.tn 25 W0 (w.heap.size + 2) = true := by rw [← hW0]; exact Shp.tn_new _ _ _ _ _ (by simp) rfl
  have s0 : w.heap.size + 2 < W0.heap.size := by rw [← hW0]; simp
  have z0 : Below w.heap.size w W0 := by rw [← hW0]; exact (((Below.refl _ _).alloc (Nat.le_refl _) _).alloc (by simp) _).alloc (by simp; omega) _
  have CU := Lib.hid (fun w => (show Calls Tryz.prog 74 #[.int .i64 4] w fun e w' => e = .returned (.tuple #[.agg #[.int .i64 4, .bool false, .bool false], .bool true]) ∧ Below w.heap.size w w' from useOf_any 4 w))
  have CP := Lib.hid (fun w => (show Calls Tryz.prog 75 #[.int .i64 (q : Int), .int .i64 4] w fun e w' => e = .returned (.bool true) ∧ w = w' from by have := below_num (q : Int) 4 w; rwa [decide_eq_true (by omega)] at this))
  have CA := Lib.hid (fun w => (show Calls Tryz.prog 75 #[.int .i64 a, .int .i64 4] w fun e w' => e = .returned (.bool false) ∧ w = w' from by have := below_num a 4 w; rwa [decide_eq_false (by omega)] at this))
  have hb : ∀ W, (bdk #[(0, .int .u8 4), (1, .int .u8 (q : Int))]).run Tryz.prog W = .ok (.agg (kS.v (D.mkK 4 q 0 Nm.D.zero D.zero))) W := fun W => run_bdk_2 W 4 q (by omega) (by omega)
  have hq : q % 256 = q := Nat.mod_eq_of_lt (by omega)
  have hqi : (q : Int) % 256 = q := by omega
  clear cT hp ha
  go_enter Tryz.func45, Tryz.ntmps45
  unfold z25 at hW0
  go_wp2_with fail
  try rw [hW0]
  clear hW0
  go_wp2_with (go_at_call 74; (with_reducible refine (CU.out _).mono ?_); rintro e w1 ⟨rfl, b1⟩; have k0 := Shp.tn_on k0 b1; have s1 := Nat.lt_of_lt_of_le s0 b1.size; have z1 := below_up z0 z0.size b1; have f0 := Nm.rd_on f0 b1; have g0 := rd_on g0 b1)
  obtain ⟨W1, hW1⟩ : ∃ W, w1.alloc (.cells #[.int .i64 4, .bool false, .bool false] 135) = W := ⟨_, rfl⟩
  have B1 := Blk.new w1 135 #[.int .i64 4, .bool false, .bool false]
  have k1 := Shp.tn_on k0 (below_alloc_ w1 (.cells #[.int .i64 4, .bool false, .bool false] 135))
  have f1 := Nm.rd_on f0 (below_alloc_ w1 (.cells #[.int .i64 4, .bool false, .bool false] 135))
  have g1 := rd_on g0 (below_alloc_ w1 (.cells #[.int .i64 4, .bool false, .bool false] 135))
  have z1' := z1.alloc z1.size (.cells #[.int .i64 4, .bool false, .bool false] 135)
  have s1' : w1.heap.size < (w1.alloc (.cells #[.int .i64 4, .bool false, .bool false] 135)).heap.size := by simp
  rw [hW1] at B1 k1 f1 g1 z1' s1'
  rw [hW1]
  clear hW1 k0 f0 g0 z1 s0 z0
  obtain ⟨m, hm⟩ : ∃ m, w1.heap.size = m := ⟨_, rfl⟩
  rw [hm] at B1 s1 s1'
  rw [hm]
  clear hm b1
  have q1 : w.heap.size + 2 < W1.heap.size := by omega
  have r1 : w.heap.size + 1 < W1.heap.size := by omega
  have t1 : w.heap.size < W1.heap.size := by omega
  have u0 := B1.c 0
  have u1 := B1.c 1
  have u2 := B1.c 2
  simp at u0 u1 u2
  go_wp2_with (first
    | (go_at_call 75; (with_reducible refine (CP.out _).mono ?_); rintro e w2 ⟨rfl, rfl⟩)
    | (go_at_call 75; (with_reducible refine (CA.out _).mono ?_); rintro e w3 ⟨rfl, rfl⟩))
  have hset := Shp.rd_set (S := kS) W1 (w.heap.size + 2) D.zK k1
  have z9 := below_setRow z1' (g := w.heap.size + 2) (by omega) (kS.v D.zK)
  exact bodyPost_ret (v := .tuple #[.agg (kS.v D.zK), .int .i64 5]) (by rw [results_cell_tmp rfl]; simp [asAddr, Result.andThen, lvk_of hset]) rfl ⟨rfl, z9⟩

set_option maxHeartbeats 4000000 in
theorem kof_ok4 (cT : ∀ (x : D.Tg) (w : World), Calls Tryz.prog 77 #[.agg (nc x)] w fun e w' => e = .returned (.bool (D.right x)) ∧ Below w.heap.size w w') (q : Nat) (hp : q < 4) (b : Nat) (ha : b < 4) (n : Nm.D.Nm) (t : D.Tg) (w : World) :
    Calls Tryz.prog 45 #[.int .i64 4, .int .i64 (q : Int), .int .i64 (b : Int), .agg (Nm.nc n), .agg (nc t)] w fun e w' => e = .returned (.tuple #[.agg (kS.v (D.mkK 4 q b Nm.D.zero D.zero)), .int .i64 0]) ∧ Below w.heap.size w w' := by
  obtain ⟨W0, hW0⟩ : ∃ W, ((w.alloc (.cells (Nm.nc n) 24)).alloc (.cells (nc t) 28)).alloc (.cells z25 30) = W := ⟨_, rfl⟩
  have f0 : Nm.rd W0 ⟨w.heap.size, 0, none⟩ = some n := by rw [← hW0]; exact Nm.rd_on (Nm.rd_on (Nm.rd_new w _ _ n rfl) (below_alloc_ _ _)) (below_alloc_ _ _)
  have g0 : rd W0 ⟨w.heap.size + 1, 0, none⟩ = some t := by rw [← hW0]; exact rd_on (rd_new _ _ _ t (by simp)) (below_alloc_ _ _)
  have k0 : Shp.tn 25 W0 (w.heap.size + 2) = true := by rw [← hW0]; exact Shp.tn_new _ _ _ _ _ (by simp) rfl
  have s0 : w.heap.size + 2 < W0.heap.size := by rw [← hW0]; simp
  have z0 : Below w.heap.size w W0 := by rw [← hW0]; exact (((Below.refl _ _).alloc (Nat.le_refl _) _).alloc (by simp) _).alloc (by simp; omega) _
  have CU := Lib.hid (fun w => (show Calls Tryz.prog 74 #[.int .i64 4] w fun e w' => e = .returned (.tuple #[.agg #[.int .i64 4, .bool false, .bool false], .bool true]) ∧ Below w.heap.size w w' from useOf_any 4 w))
  have CP := Lib.hid (fun w => (show Calls Tryz.prog 75 #[.int .i64 (q : Int), .int .i64 4] w fun e w' => e = .returned (.bool true) ∧ w = w' from by have := below_num (q : Int) 4 w; rwa [decide_eq_true (by omega)] at this))
  have CA := Lib.hid (fun w => (show Calls Tryz.prog 75 #[.int .i64 (b : Int), .int .i64 4] w fun e w' => e = .returned (.bool true) ∧ w = w' from by have := below_num (b : Int) 4 w; rwa [decide_eq_true (by omega)] at this))
  have hb : ∀ W, (bdk #[(0, .int .u8 4), (1, .int .u8 (q : Int))]).run Tryz.prog W = .ok (.agg (kS.v (D.mkK 4 q 0 Nm.D.zero D.zero))) W := fun W => run_bdk_2 W 4 q (by omega) (by omega)
  have hq : q % 256 = q := Nat.mod_eq_of_lt (by omega)
  have hqi : (q : Int) % 256 = q := by omega
  have hbi : (b : Int) % 256 = b := by omega
  have hs := fun (n : Nm.D.Nm) (t : D.Tg) => kset_a 4 q 0 n t b (by omega)
  clear cT hp ha
  go_enter Tryz.func45, Tryz.ntmps45
  unfold z25 at hW0
  go_wp2_with fail
  try rw [hW0]
  clear hW0
  go_wp2_with (go_at_call 74; (with_reducible refine (CU.out _).mono ?_); rintro e w1 ⟨rfl, b1⟩; have k0 := Shp.tn_on k0 b1; have s1 := Nat.lt_of_lt_of_le s0 b1.size; have z1 := below_up z0 z0.size b1; have f0 := Nm.rd_on f0 b1; have g0 := rd_on g0 b1)
  obtain ⟨W1, hW1⟩ : ∃ W, w1.alloc (.cells #[.int .i64 4, .bool false, .bool false] 135) = W := ⟨_, rfl⟩
  have B1 := Blk.new w1 135 #[.int .i64 4, .bool false, .bool false]
  have k1 := Shp.tn_on k0 (below_alloc_ w1 (.cells #[.int .i64 4, .bool false, .bool false] 135))
  have f1 := Nm.rd_on f0 (below_alloc_ w1 (.cells #[.int .i64 4, .bool false, .bool false] 135))
  have g1 := rd_on g0 (below_alloc_ w1 (.cells #[.int .i64 4, .bool false, .bool false] 135))
  have z1' := z1.alloc z1.size (.cells #[.int .i64 4, .bool false, .bool false] 135)
  have s1' : w1.heap.size < (w1.alloc (.cells #[.int .i64 4, .bool false, .bool false] 135)).heap.size := by simp
  rw [hW1] at B1 k1 f1 g1 z1' s1'
  rw [hW1]
  clear hW1 k0 f0 g0 z1 s0 z0
  obtain ⟨m, hm⟩ : ∃ m, w1.heap.size = m := ⟨_, rfl⟩
  rw [hm] at B1 s1 s1'
  rw [hm]
  clear hm b1
  have q1 : w.heap.size + 2 < W1.heap.size := by omega
  have r1 : w.heap.size + 1 < W1.heap.size := by omega
  have t1 : w.heap.size < W1.heap.size := by omega
  have u0 := B1.c 0
  have u1 := B1.c 1
  have u2 := B1.c 2
  simp at u0 u1 u2
  go_wp2_with (first
    | (go_at_call 75; (with_reducible refine (CP.out _).mono ?_); rintro e w2 ⟨rfl, rfl⟩)
    | (go_at_call 75; (with_reducible refine (CA.out _).mono ?_); rintro e w3 ⟨rfl, rfl⟩))
  have hset := Shp.rd_set (S := kS) (W1.alloc (.cells (kS.v (D.mkK 4 q b Nm.D.zero D.zero)) 30)) (w.heap.size + 2) (D.mkK 4 q b Nm.D.zero D.zero) (Shp.tn_on k1 (below_alloc_ _ _))
  have z9 := below_setRow (z1'.alloc z1'.size (.cells (kS.v (D.mkK 4 q b Nm.D.zero D.zero)) 30)) (g := w.heap.size + 2) (by omega) (kS.v (D.mkK 4 q b Nm.D.zero D.zero))
  exact bodyPost_ret (v := .tuple #[.agg (kS.v (D.mkK 4 q b Nm.D.zero D.zero)), .int .i64 0]) (by rw [results_cell_tmp rfl]; simp [asAddr, Result.andThen, lvk_of hset]) rfl ⟨rfl, z9⟩

set_option maxHeartbeats 4000000 in
theorem kof_p5 (cT : ∀ (x : D.Tg) (w : World), Calls Tryz.prog 77 #[.agg (nc x)] w fun e w' => e = .returned (.bool (D.right x)) ∧ Below w.heap.size w w') (p : Int) (hp : ¬ (0 ≤ p ∧ p < 4)) (a : Int) (n : Nm.D.Nm) (t : D.Tg) (w : World) :
    Calls Tryz.prog 45 #[.int .i64 5, .int .i64 p, .int .i64 a, .agg (Nm.nc n), .agg (nc t)] w fun e w' => e = .returned (.tuple #[.agg (kS.v D.zK), .int .i64 5]) ∧ Below w.heap.size w w' := by
  obtain ⟨W0, hW0⟩ : ∃ W, ((w.alloc (.cells (Nm.nc n) 24)).alloc (.cells (nc t) 28)).alloc (.cells z25 30) = W := ⟨_, rfl⟩
  have f0 : Nm.rd W0 ⟨w.heap.size, 0, none⟩ = some n := by rw [← hW0]; exact Nm.rd_on (Nm.rd_on (Nm.rd_new w _ _ n rfl) (below_alloc_ _ _)) (below_alloc_ _ _)
  have g0 : rd W0 ⟨w.heap.size + 1, 0, none⟩ = some t := by rw [← hW0]; exact rd_on (rd_new _ _ _ t (by simp)) (below_alloc_ _ _)
  have k0 : Shp.tn 25 W0 (w.heap.size + 2) = true := by rw [← hW0]; exact Shp.tn_new _ _ _ _ _ (by simp) rfl
  have s0 : w.heap.size + 2 < W0.heap.size := by rw [← hW0]; simp
  have z0 : Below w.heap.size w W0 := by rw [← hW0]; exact (((Below.refl _ _).alloc (Nat.le_refl _) _).alloc (by simp) _).alloc (by simp; omega) _
  have CU := Lib.hid (fun w => (show Calls Tryz.prog 74 #[.int .i64 5] w fun e w' => e = .returned (.tuple #[.agg #[.int .i64 4, .bool true, .bool false], .bool true]) ∧ Below w.heap.size w w' from useOf_any 5 w))
  have CP := Lib.hid (fun w => (show Calls Tryz.prog 75 #[.int .i64 p, .int .i64 4] w fun e w' => e = .returned (.bool false) ∧ w = w' from by have := below_num p 4 w; rwa [decide_eq_false (by omega)] at this))
  clear cT hp
  go_enter Tryz.func45, Tryz.ntmps45
  unfold z25 at hW0
  go_wp2_with fail
  try rw [hW0]
  clear hW0
  go_wp2_with (go_at_call 74; (with_reducible refine (CU.out _).mono ?_); rintro e w1 ⟨rfl, b1⟩; have k0 := Shp.tn_on k0 b1; have s1 := Nat.lt_of_lt_of_le s0 b1.size; have z1 := below_up z0 z0.size b1; have f0 := Nm.rd_on f0 b1; have g0 := rd_on g0 b1)
  obtain ⟨W1, hW1⟩ : ∃ W, w1.alloc (.cells #[.int .i64 4, .bool true, .bool false] 135) = W := ⟨_, rfl⟩
  have B1 := Blk.new w1 135 #[.int .i64 4, .bool true, .bool false]
  have k1 := Shp.tn_on k0 (below_alloc_ w1 (.cells #[.int .i64 4, .bool true, .bool false] 135))
  have f1 := Nm.rd_on f0 (below_alloc_ w1 (.cells #[.int .i64 4, .bool true, .bool false] 135))
  have g1 := rd_on g0 (below_alloc_ w1 (.cells #[.int .i64 4, .bool true, .bool false] 135))
  have z1' := z1.alloc z1.size (.cells #[.int .i64 4, .bool true, .bool false] 135)
  have s1' : w1.heap.size < (w1.alloc (.cells #[.int .i64 4, .bool true, .bool false] 135)).heap.size := by simp
  rw [hW1] at B1 k1 f1 g1 z1' s1'
  rw [hW1]
  clear hW1 k0 f0 g0 z1 s0 z0
  obtain ⟨m, hm⟩ : ∃ m, w1.heap.size = m := ⟨_, rfl⟩
  rw [hm] at B1 s1 s1'
  rw [hm]
  clear hm b1
  have q1 : w.heap.size + 2 < W1.heap.size := by omega
  have r1 : w.heap.size + 1 < W1.heap.size := by omega
  have t1 : w.heap.size < W1.heap.size := by omega
  have u0 := B1.c 0
  have u1 := B1.c 1
  have u2 := B1.c 2
  simp at u0 u1 u2
  go_wp2_with (first
    | (go_at_call 75; (with_reducible refine (CP.out _).mono ?_); rintro e w2 ⟨rfl, rfl⟩))
  have hset := Shp.rd_set (S := kS) W1 (w.heap.size + 2) D.zK k1
  have z9 := below_setRow z1' (g := w.heap.size + 2) (by omega) (kS.v D.zK)
  exact bodyPost_ret (v := .tuple #[.agg (kS.v D.zK), .int .i64 5]) (by rw [results_cell_tmp rfl]; simp [asAddr, Result.andThen, lvk_of hset]) rfl ⟨rfl, z9⟩

set_option maxHeartbeats 4000000 in
theorem kof_a5 (cT : ∀ (x : D.Tg) (w : World), Calls Tryz.prog 77 #[.agg (nc x)] w fun e w' => e = .returned (.bool (D.right x)) ∧ Below w.heap.size w w') (q : Nat) (hp : q < 4) (a : Int) (ha : ¬ (0 ≤ a ∧ a < 4)) (n : Nm.D.Nm) (t : D.Tg) (w : World) :
    Calls Tryz.prog 45 #[.int .i64 5, .int .i64 (q : Int), .int .i64 a, .agg (Nm.nc n), .agg (nc t)] w fun e w' => e = .returned (.tuple #[.agg (kS.v D.zK), .int .i64 5]) ∧ Below w.heap.size w w' := by
  obtain ⟨W0, hW0⟩ : ∃ W, ((w.alloc (.cells (Nm.nc n) 24)).alloc (.cells (nc t) 28)).alloc (.cells z25 30) = W := ⟨_, rfl⟩
  have f0 : Nm.rd W0 ⟨w.heap.size, 0, none⟩ = some n := by rw [← hW0]; exact Nm.rd_on (Nm.rd_on (Nm.rd_new w _ _ n rfl) (below_alloc_ _ _)) (below_alloc_ _ _)
  have g0 : rd W0 ⟨w.heap.size + 1, 0, none⟩ = some t := by rw [← hW0]; exact rd_on (rd_new _ _ _ t (by simp)) (below_alloc_ _ _)
  have k0 : Shp.tn 25 W0 (w.heap.size + 2) = true := by rw [← hW0]; exact Shp.tn_new _ _ _ _ _ (by simp) rfl
  have s0 : w.heap.size + 2 < W0.heap.size := by rw [← hW0]; simp
  have z0 : Below w.heap.size w W0 := by rw [← hW0]; exact (((Below.refl _ _).alloc (Nat.le_refl _) _).alloc (by simp) _).alloc (by simp; omega) _
  have CU := Lib.hid (fun w => (show Calls Tryz.prog 74 #[.int .i64 5] w fun e w' => e = .returned (.tuple #[.agg #[.int .i64 4, .bool true, .bool false], .bool true]) ∧ Below w.heap.size w w' from useOf_any 5 w))
  have CP := Lib.hid (fun w => (show Calls Tryz.prog 75 #[.int .i64 (q : Int), .int .i64 4] w fun e w' => e = .returned (.bool true) ∧ w = w' from by have := below_num (q : Int) 4 w; rwa [decide_eq_true (by omega)] at this))
  have CA := Lib.hid (fun w => (show Calls Tryz.prog 75 #[.int .i64 a, .int .i64 4] w fun e w' => e = .returned (.bool false) ∧ w = w' from by have := below_num a 4 w; rwa [decide_eq_false (by omega)] at this))
  have hb : ∀ W, (bdk #[(0, .int .u8 5), (1, .int .u8 (q : Int))]).run Tryz.prog W = .ok (.agg (kS.v (D.mkK 5 q 0 Nm.D.zero D.zero))) W := fun W => run_bdk_2 W 5 q (by omega) (by omega)
  have hq : q % 256 = q := Nat.mod_eq_of_lt (by omega)
  have hqi : (q : Int) % 256 = q := by omega
  clear cT hp ha
  go_enter Tryz.func45, Tryz.ntmps45
  unfold z25 at hW0
  go_wp2_with fail
  try rw [hW0]
  clear hW0
  go_wp2_with (go_at_call 74; (with_reducible refine (CU.out _).mono ?_); rintro e w1 ⟨rfl, b1⟩; have k0 := Shp.tn_on k0 b1; have s1 := Nat.lt_of_lt_of_le s0 b1.size; have z1 := below_up z0 z0.size b1; have f0 := Nm.rd_on f0 b1; have g0 := rd_on g0 b1)
  obtain ⟨W1, hW1⟩ : ∃ W, w1.alloc (.cells #[.int .i64 4, .bool true, .bool false] 135) = W := ⟨_, rfl⟩
  have B1 := Blk.new w1 135 #[.int .i64 4, .bool true, .bool false]
  have k1 := Shp.tn_on k0 (below_alloc_ w1 (.cells #[.int .i64 4, .bool true, .bool false] 135))
  have f1 := Nm.rd_on f0 (below_alloc_ w1 (.cells #[.int .i64 4, .bool true, .bool false] 135))
  have g1 := rd_on g0 (below_alloc_ w1 (.cells #[.int .i64 4, .bool true, .bool false] 135))
  have z1' := z1.alloc z1.size (.cells #[.int .i64 4, .bool true, .bool false] 135)
  have s1' : w1.heap.size < (w1.alloc (.cells #[.int .i64 4, .bool true, .bool false] 135)).heap.size := by simp
  rw [hW1] at B1 k1 f1 g1 z1' s1'
  rw [hW1]
  clear hW1 k0 f0 g0 z1 s0 z0
  obtain ⟨m, hm⟩ : ∃ m, w1.heap.size = m := ⟨_, rfl⟩
  rw [hm] at B1 s1 s1'
  rw [hm]
  clear hm b1
  have q1 : w.heap.size + 2 < W1.heap.size := by omega
  have r1 : w.heap.size + 1 < W1.heap.size := by omega
  have t1 : w.heap.size < W1.heap.size := by omega
  have u0 := B1.c 0
  have u1 := B1.c 1
  have u2 := B1.c 2
  simp at u0 u1 u2
  go_wp2_with (first
    | (go_at_call 75; (with_reducible refine (CP.out _).mono ?_); rintro e w2 ⟨rfl, rfl⟩)
    | (go_at_call 75; (with_reducible refine (CA.out _).mono ?_); rintro e w3 ⟨rfl, rfl⟩))
  have hset := Shp.rd_set (S := kS) W1 (w.heap.size + 2) D.zK k1
  have z9 := below_setRow z1' (g := w.heap.size + 2) (by omega) (kS.v D.zK)
  exact bodyPost_ret (v := .tuple #[.agg (kS.v D.zK), .int .i64 5]) (by rw [results_cell_tmp rfl]; simp [asAddr, Result.andThen, lvk_of hset]) rfl ⟨rfl, z9⟩

set_option maxHeartbeats 4000000 in
theorem kof_n5 (cT : ∀ (x : D.Tg) (w : World), Calls Tryz.prog 77 #[.agg (nc x)] w fun e w' => e = .returned (.bool (D.right x)) ∧ Below w.heap.size w w') (q : Nat) (hp : q < 4) (b : Nat) (ha : b < 4) (n : Nm.D.Nm) (t : D.Tg) (hn : Nm.D.right n = false) (w : World) :
    Calls Tryz.prog 45 #[.int .i64 5, .int .i64 (q : Int), .int .i64 (b : Int), .agg (Nm.nc n), .agg (nc t)] w fun e w' => e = .returned (.tuple #[.agg (kS.v D.zK), .int .i64 15]) ∧ Below w.heap.size w w' := by
  obtain ⟨W0, hW0⟩ : ∃ W, ((w.alloc (.cells (Nm.nc n) 24)).alloc (.cells (nc t) 28)).alloc (.cells z25 30) = W := ⟨_, rfl⟩
  have f0 : Nm.rd W0 ⟨w.heap.size, 0, none⟩ = some n := by rw [← hW0]; exact Nm.rd_on (Nm.rd_on (Nm.rd_new w _ _ n rfl) (below_alloc_ _ _)) (below_alloc_ _ _)
  have g0 : rd W0 ⟨w.heap.size + 1, 0, none⟩ = some t := by rw [← hW0]; exact rd_on (rd_new _ _ _ t (by simp)) (below_alloc_ _ _)
  have k0 : Shp.tn 25 W0 (w.heap.size + 2) = true := by rw [← hW0]; exact Shp.tn_new _ _ _ _ _ (by simp) rfl
  have s0 : w.heap.size + 2 < W0.heap.size := by rw [← hW0]; simp
  have z0 : Below w.heap.size w W0 := by rw [← hW0]; exact (((Below.refl _ _).alloc (Nat.le_refl _) _).alloc (by simp) _).alloc (by simp; omega) _
  have CU := Lib.hid (fun w => (show Calls Tryz.prog 74 #[.int .i64 5] w fun e w' => e = .returned (.tuple #[.agg #[.int .i64 4, .bool true, .bool false], .bool true]) ∧ Below w.heap.size w w' from useOf_any 5 w))
  have CP := Lib.hid (fun w => (show Calls Tryz.prog 75 #[.int .i64 (q : Int), .int .i64 4] w fun e w' => e = .returned (.bool true) ∧ w = w' from by have := below_num (q : Int) 4 w; rwa [decide_eq_true (by omega)] at this))
  have CA := Lib.hid (fun w => (show Calls Tryz.prog 75 #[.int .i64 (b : Int), .int .i64 4] w fun e w' => e = .returned (.bool true) ∧ w = w' from by have := below_num (b : Int) 4 w; rwa [decide_eq_true (by omega)] at this))
  have CN := Lib.hid (fun w => (show Calls Tryz.prog 76 #[.agg (Nm.nc n)] w fun e w' => e = .returned (.bool false) ∧ Below w.heap.size w w' from by have := Nm.right_any n w; rwa [hn] at this))
  have hb : ∀ W, (bdk #[(0, .int .u8 5), (1, .int .u8 (q : Int))]).run Tryz.prog W = .ok (.agg (kS.v (D.mkK 5 q 0 Nm.D.zero D.zero))) W := fun W => run_bdk_2 W 5 q (by omega) (by omega)
  have hq : q % 256 = q := Nat.mod_eq_of_lt (by omega)
  have hqi : (q : Int) % 256 = q := by omega
  have hbi : (b : Int) % 256 = b := by omega
  have hs := fun (n : Nm.D.Nm) (t : D.Tg) => kset_a 5 q 0 n t b (by omega)
  clear cT hp ha hn
  go_enter Tryz.func45, Tryz.ntmps45
  unfold z25 at hW0
  go_wp2_with fail
  try rw [hW0]
  clear hW0
  go_wp2_with (go_at_call 74; (with_reducible refine (CU.out _).mono ?_); rintro e w1 ⟨rfl, b1⟩; have k0 := Shp.tn_on k0 b1; have s1 := Nat.lt_of_lt_of_le s0 b1.size; have z1 := below_up z0 z0.size b1; have f0 := Nm.rd_on f0 b1; have g0 := rd_on g0 b1)
  obtain ⟨W1, hW1⟩ : ∃ W, w1.alloc (.cells #[.int .i64 4, .bool true, .bool false] 135) = W := ⟨_, rfl⟩
  have B1 := Blk.new w1 135 #[.int .i64 4, .bool true, .bool false]
  have k1 := Shp.tn_on k0 (below_alloc_ w1 (.cells #[.int .i64 4, .bool true, .bool false] 135))
  have f1 := Nm.rd_on f0 (below_alloc_ w1 (.cells #[.int .i64 4, .bool true, .bool false] 135))
  have g1 := rd_on g0 (below_alloc_ w1 (.cells #[.int .i64 4, .bool true, .bool false] 135))
  have z1' := z1.alloc z1.size (.cells #[.int .i64 4, .bool true, .bool false] 135)
  have s1' : w1.heap.size < (w1.alloc (.cells #[.int .i64 4, .bool true, .bool false] 135)).heap.size := by simp
  rw [hW1] at B1 k1 f1 g1 z1' s1'
  rw [hW1]
  clear hW1 k0 f0 g0 z1 s0 z0
  obtain ⟨m, hm⟩ : ∃ m, w1.heap.size = m := ⟨_, rfl⟩
  rw [hm] at B1 s1 s1'
  rw [hm]
  clear hm b1
  have q1 : w.heap.size + 2 < W1.heap.size := by omega
  have r1 : w.heap.size + 1 < W1.heap.size := by omega
  have t1 : w.heap.size < W1.heap.size := by omega
  have u0 := B1.c 0
  have u1 := B1.c 1
  have u2 := B1.c 2
  simp at u0 u1 u2
  go_wp2_with (first
    | (go_at_call 75; (with_reducible refine (CP.out _).mono ?_); rintro e w2 ⟨rfl, rfl⟩)
    | (go_at_call 75; (with_reducible refine (CA.out _).mono ?_); rintro e w3 ⟨rfl, rfl⟩)
    | (go_at_call 76; (with_reducible refine (CN.out _).mono ?_); rintro e w4 ⟨rfl, b4⟩; have B4 := B1.on b4; have k4 := Shp.tn_on k1 b4; have f4 := Nm.rd_on f1 b4; have g4 := rd_on g1 b4; have z4' := below_up z1' z1'.size b4; have s4' := Nat.lt_of_lt_of_le s1' b4.size; have q4 := Nat.lt_of_lt_of_le q1 b4.size; have r4 := Nat.lt_of_lt_of_le r1 b4.size; have t4 := Nat.lt_of_lt_of_le t1 b4.size; have v0 := B4.c 0; have v1 := B4.c 1; have v2 := B4.c 2; simp at v0 v1 v2))
  have hset := Shp.rd_set (S := kS) w4 (w.heap.size + 2) D.zK k4
  have z9 := below_setRow z4' (g := w.heap.size + 2) (by omega) (kS.v D.zK)
  exact bodyPost_ret (v := .tuple #[.agg (kS.v D.zK), .int .i64 15]) (by rw [results_cell_tmp rfl]; simp [asAddr, Result.andThen, lvk_of hset]) rfl ⟨rfl, z9⟩

set_option maxHeartbeats 4000000 in
theorem kof_ok5 (cT : ∀ (x : D.Tg) (w : World), Calls Tryz.prog 77 #[.agg (nc x)] w fun e w' => e = .returned (.bool (D.right x)) ∧ Below w.heap.size w w') (q : Nat) (hp : q < 4) (b : Nat) (ha : b < 4) (n : Nm.D.Nm) (t : D.Tg) (hn : Nm.D.right n = true) (w : World) :
    Calls Tryz.prog 45 #[.int .i64 5, .int .i64 (q : Int), .int .i64 (b : Int), .agg (Nm.nc n), .agg (nc t)] w fun e w' => e = .returned (.tuple #[.agg (kS.v (D.mkK 5 q b n D.zero)), .int .i64 0]) ∧ Below w.heap.size w w' := by
  obtain ⟨W0, hW0⟩ : ∃ W, ((w.alloc (.cells (Nm.nc n) 24)).alloc (.cells (nc t) 28)).alloc (.cells z25 30) = W := ⟨_, rfl⟩
  have f0 : Nm.rd W0 ⟨w.heap.size, 0, none⟩ = some n := by rw [← hW0]; exact Nm.rd_on (Nm.rd_on (Nm.rd_new w _ _ n rfl) (below_alloc_ _ _)) (below_alloc_ _ _)
  have g0 : rd W0 ⟨w.heap.size + 1, 0, none⟩ = some t := by rw [← hW0]; exact rd_on (rd_new _ _ _ t (by simp)) (below_alloc_ _ _)
  have k0 : Shp.tn 25 W0 (w.heap.size + 2) = true := by rw [← hW0]; exact Shp.tn_new _ _ _ _ _ (by simp) rfl
  have s0 : w.heap.size + 2 < W0.heap.size := by rw [← hW0]; simp
  have z0 : Below w.heap.size w W0 := by rw [← hW0]; exact (((Below.refl _ _).alloc (Nat.le_refl _) _).alloc (by simp) _).alloc (by simp; omega) _
  have CU := Lib.hid (fun w => (show Calls Tryz.prog 74 #[.int .i64 5] w fun e w' => e = .returned (.tuple #[.agg #[.int .i64 4, .bool true, .bool false], .bool true]) ∧ Below w.heap.size w w' from useOf_any 5 w))
  have CP := Lib.hid (fun w => (show Calls Tryz.prog 75 #[.int .i64 (q : Int), .int .i64 4] w fun e w' => e = .returned (.bool true) ∧ w = w' from by have := below_num (q : Int) 4 w; rwa [decide_eq_true (by omega)] at this))
  have CA := Lib.hid (fun w => (show Calls Tryz.prog 75 #[.int .i64 (b : Int), .int .i64 4] w fun e w' => e = .returned (.bool true) ∧ w = w' from by have := below_num (b : Int) 4 w; rwa [decide_eq_true (by omega)] at this))
  have CN := Lib.hid (fun w => (show Calls Tryz.prog 76 #[.agg (Nm.nc n)] w fun e w' => e = .returned (.bool true) ∧ Below w.heap.size w w' from by have := Nm.right_any n w; rwa [hn] at this))
  have hb : ∀ W, (bdk #[(0, .int .u8 5), (1, .int .u8 (q : Int))]).run Tryz.prog W = .ok (.agg (kS.v (D.mkK 5 q 0 Nm.D.zero D.zero))) W := fun W => run_bdk_2 W 5 q (by omega) (by omega)
  have hq : q % 256 = q := Nat.mod_eq_of_lt (by omega)
  have hqi : (q : Int) % 256 = q := by omega
  have hbi : (b : Int) % 256 = b := by omega
  have hs := fun (n : Nm.D.Nm) (t : D.Tg) => kset_a 5 q 0 n t b (by omega)
  clear cT hp ha hn
  go_enter Tryz.func45, Tryz.ntmps45
  unfold z25 at hW0
  go_wp2_with fail
  try rw [hW0]
  clear hW0
  go_wp2_with (go_at_call 74; (with_reducible refine (CU.out _).mono ?_); rintro e w1 ⟨rfl, b1⟩; have k0 := Shp.tn_on k0 b1; have s1 := Nat.lt_of_lt_of_le s0 b1.size; have z1 := below_up z0 z0.size b1; have f0 := Nm.rd_on f0 b1; have g0 := rd_on g0 b1)
  obtain ⟨W1, hW1⟩ : ∃ W, w1.alloc (.cells #[.int .i64 4, .bool true, .bool false] 135) = W := ⟨_, rfl⟩
  have B1 := Blk.new w1 135 #[.int .i64 4, .bool true, .bool false]
  have k1 := Shp.tn_on k0 (below_alloc_ w1 (.cells #[.int .i64 4, .bool true, .bool false] 135))
  have f1 := Nm.rd_on f0 (below_alloc_ w1 (.cells #[.int .i64 4, .bool true, .bool false] 135))
  have g1 := rd_on g0 (below_alloc_ w1 (.cells #[.int .i64 4, .bool true, .bool false] 135))
  have z1' := z1.alloc z1.size (.cells #[.int .i64 4, .bool true, .bool false] 135)
  have s1' : w1.heap.size < (w1.alloc (.cells #[.int .i64 4, .bool true, .bool false] 135)).heap.size := by simp
  rw [hW1] at B1 k1 f1 g1 z1' s1'
  rw [hW1]
  clear hW1 k0 f0 g0 z1 s0 z0
  obtain ⟨m, hm⟩ : ∃ m, w1.heap.size = m := ⟨_, rfl⟩
  rw [hm] at B1 s1 s1'
  rw [hm]
  clear hm b1
  have q1 : w.heap.size + 2 < W1.heap.size := by omega
  have r1 : w.heap.size + 1 < W1.heap.size := by omega
  have t1 : w.heap.size < W1.heap.size := by omega
  have u0 := B1.c 0
  have u1 := B1.c 1
  have u2 := B1.c 2
  simp at u0 u1 u2
  go_wp2_with (first
    | (go_at_call 75; (with_reducible refine (CP.out _).mono ?_); rintro e w2 ⟨rfl, rfl⟩)
    | (go_at_call 75; (with_reducible refine (CA.out _).mono ?_); rintro e w3 ⟨rfl, rfl⟩)
    | (go_at_call 76; (with_reducible refine (CN.out _).mono ?_); rintro e w4 ⟨rfl, b4⟩; have B4 := B1.on b4; have k4 := Shp.tn_on k1 b4; have f4 := Nm.rd_on f1 b4; have g4 := rd_on g1 b4; have z4' := below_up z1' z1'.size b4; have s4' := Nat.lt_of_lt_of_le s1' b4.size; have q4 := Nat.lt_of_lt_of_le q1 b4.size; have r4 := Nat.lt_of_lt_of_le r1 b4.size; have t4 := Nat.lt_of_lt_of_le t1 b4.size; have v0 := B4.c 0; have v1 := B4.c 1; have v2 := B4.c 2; simp at v0 v1 v2))
  have hset := Shp.rd_set (S := kS) (w4.alloc (.cells (kS.v (D.mkK 5 q b n D.zero)) 30)) (w.heap.size + 2) (D.mkK 5 q b n D.zero) (Shp.tn_on k4 (below_alloc_ _ _))
  have z9 := below_setRow (z4'.alloc z4'.size (.cells (kS.v (D.mkK 5 q b n D.zero)) 30)) (g := w.heap.size + 2) (by omega) (kS.v (D.mkK 5 q b n D.zero))
  exact bodyPost_ret (v := .tuple #[.agg (kS.v (D.mkK 5 q b n D.zero)), .int .i64 0]) (by rw [results_cell_tmp rfl]; simp [asAddr, Result.andThen, lvk_of hset]) rfl ⟨rfl, z9⟩

set_option maxHeartbeats 4000000 in
theorem kof_p6 (cT : ∀ (x : D.Tg) (w : World), Calls Tryz.prog 77 #[.agg (nc x)] w fun e w' => e = .returned (.bool (D.right x)) ∧ Below w.heap.size w w') (p : Int) (hp : ¬ (0 ≤ p ∧ p < 4)) (a : Int) (n : Nm.D.Nm) (t : D.Tg) (w : World) :
    Calls Tryz.prog 45 #[.int .i64 6, .int .i64 p, .int .i64 a, .agg (Nm.nc n), .agg (nc t)] w fun e w' => e = .returned (.tuple #[.agg (kS.v D.zK), .int .i64 5]) ∧ Below w.heap.size w w' := by
  obtain ⟨W0, hW0⟩ : ∃ W, ((w.alloc (.cells (Nm.nc n) 24)).alloc (.cells (nc t) 28)).alloc (.cells z25 30) = W := ⟨_, rfl⟩
  have f0 : Nm.rd W0 ⟨w.heap.size, 0, none⟩ = some n := by rw [← hW0]; exact Nm.rd_on (Nm.rd_on (Nm.rd_new w _ _ n rfl) (below_alloc_ _ _)) (below_alloc_ _ _)
  have g0 : rd W0 ⟨w.heap.size + 1, 0, none⟩ = some t := by rw [← hW0]; exact rd_on (rd_new _ _ _ t (by simp)) (below_alloc_ _ _)
  have k0 : Shp.tn 25 W0 (w.heap.size + 2) = true := by rw [← hW0]; exact Shp.tn_new _ _ _ _ _ (by simp) rfl
  have s0 : w.heap.size + 2 < W0.heap.size := by rw [← hW0]; simp
  have z0 : Below w.heap.size w W0 := by rw [← hW0]; exact (((Below.refl _ _).alloc (Nat.le_refl _) _).alloc (by simp) _).alloc (by simp; omega) _
  have CU := Lib.hid (fun w => (show Calls Tryz.prog 74 #[.int .i64 6] w fun e w' => e = .returned (.tuple #[.agg #[.int .i64 4, .bool true, .bool true], .bool true]) ∧ Below w.heap.size w w' from useOf_any 6 w))
  have CP := Lib.hid (fun w => (show Calls Tryz.prog 75 #[.int .i64 p, .int .i64 4] w fun e w' => e = .returned (.bool false) ∧ w = w' from by have := below_num p 4 w; rwa [decide_eq_false (by omega)] at this))
  clear cT hp
  go_enter Tryz.func45, Tryz.ntmps45
  unfold z25 at hW0
  go_wp2_with fail
  try rw [hW0]
  clear hW0
  go_wp2_with (go_at_call 74; (with_reducible refine (CU.out _).mono ?_); rintro e w1 ⟨rfl, b1⟩; have k0 := Shp.tn_on k0 b1; have s1 := Nat.lt_of_lt_of_le s0 b1.size; have z1 := below_up z0 z0.size b1; have f0 := Nm.rd_on f0 b1; have g0 := rd_on g0 b1)
  obtain ⟨W1, hW1⟩ : ∃ W, w1.alloc (.cells #[.int .i64 4, .bool true, .bool true] 135) = W := ⟨_, rfl⟩
  have B1 := Blk.new w1 135 #[.int .i64 4, .bool true, .bool true]
  have k1 := Shp.tn_on k0 (below_alloc_ w1 (.cells #[.int .i64 4, .bool true, .bool true] 135))
  have f1 := Nm.rd_on f0 (below_alloc_ w1 (.cells #[.int .i64 4, .bool true, .bool true] 135))
  have g1 := rd_on g0 (below_alloc_ w1 (.cells #[.int .i64 4, .bool true, .bool true] 135))
  have z1' := z1.alloc z1.size (.cells #[.int .i64 4, .bool true, .bool true] 135)
  have s1' : w1.heap.size < (w1.alloc (.cells #[.int .i64 4, .bool true, .bool true] 135)).heap.size := by simp
  rw [hW1] at B1 k1 f1 g1 z1' s1'
  rw [hW1]
  clear hW1 k0 f0 g0 z1 s0 z0
  obtain ⟨m, hm⟩ : ∃ m, w1.heap.size = m := ⟨_, rfl⟩
  rw [hm] at B1 s1 s1'
  rw [hm]
  clear hm b1
  have q1 : w.heap.size + 2 < W1.heap.size := by omega
  have r1 : w.heap.size + 1 < W1.heap.size := by omega
  have t1 : w.heap.size < W1.heap.size := by omega
  have u0 := B1.c 0
  have u1 := B1.c 1
  have u2 := B1.c 2
  simp at u0 u1 u2
  go_wp2_with (first
    | (go_at_call 75; (with_reducible refine (CP.out _).mono ?_); rintro e w2 ⟨rfl, rfl⟩))
  have hset := Shp.rd_set (S := kS) W1 (w.heap.size + 2) D.zK k1
  have z9 := below_setRow z1' (g := w.heap.size + 2) (by omega) (kS.v D.zK)
  exact bodyPost_ret (v := .tuple #[.agg (kS.v D.zK), .int .i64 5]) (by rw [results_cell_tmp rfl]; simp [asAddr, Result.andThen, lvk_of hset]) rfl ⟨rfl, z9⟩

set_option maxHeartbeats 4000000 in
theorem kof_a6 (cT : ∀ (x : D.Tg) (w : World), Calls Tryz.prog 77 #[.agg (nc x)] w fun e w' => e = .returned (.bool (D.right x)) ∧ Below w.heap.size w w') (q : Nat) (hp : q < 4) (a : Int) (ha : ¬ (0 ≤ a ∧ a < 4)) (n : Nm.D.Nm) (t : D.Tg) (w : World) :
    Calls Tryz.prog 45 #[.int .i64 6, .int .i64 (q : Int), .int .i64 a, .agg (Nm.nc n), .agg (nc t)] w fun e w' => e = .returned (.tuple #[.agg (kS.v D.zK), .int .i64 5]) ∧ Below w.heap.size w w' := by
  obtain ⟨W0, hW0⟩ : ∃ W, ((w.alloc (.cells (Nm.nc n) 24)).alloc (.cells (nc t) 28)).alloc (.cells z25 30) = W := ⟨_, rfl⟩
  have f0 : Nm.rd W0 ⟨w.heap.size, 0, none⟩ = some n := by rw [← hW0]; exact Nm.rd_on (Nm.rd_on (Nm.rd_new w _ _ n rfl) (below_alloc_ _ _)) (below_alloc_ _ _)
  have g0 : rd W0 ⟨w.heap.size + 1, 0, none⟩ = some t := by rw [← hW0]; exact rd_on (rd_new _ _ _ t (by simp)) (below_alloc_ _ _)
  have k0 : Shp.tn 25 W0 (w.heap.size + 2) = true := by rw [← hW0]; exact Shp.tn_new _ _ _ _ _ (by simp) rfl
  have s0 : w.heap.size + 2 < W0.heap.size := by rw [← hW0]; simp
  have z0 : Below w.heap.size w W0 := by rw [← hW0]; exact (((Below.refl _ _).alloc (Nat.le_refl _) _).alloc (by simp) _).alloc (by simp; omega) _
  have CU := Lib.hid (fun w => (show Calls Tryz.prog 74 #[.int .i64 6] w fun e w' => e = .returned (.tuple #[.agg #[.int .i64 4, .bool true, .bool true], .bool true]) ∧ Below w.heap.size w w' from useOf_any 6 w))
  have CP := Lib.hid (fun w => (show Calls Tryz.prog 75 #[.int .i64 (q : Int), .int .i64 4] w fun e w' => e = .returned (.bool true) ∧ w = w' from by have := below_num (q : Int) 4 w; rwa [decide_eq_true (by omega)] at this))
  have CA := Lib.hid (fun w => (show Calls Tryz.prog 75 #[.int .i64 a, .int .i64 4] w fun e w' => e = .returned (.bool false) ∧ w = w' from by have := below_num a 4 w; rwa [decide_eq_false (by omega)] at this))
  have hb : ∀ W, (bdk #[(0, .int .u8 6), (1, .int .u8 (q : Int))]).run Tryz.prog W = .ok (.agg (kS.v (D.mkK 6 q 0 Nm.D.zero D.zero))) W := fun W => run_bdk_2 W 6 q (by omega) (by omega)
  have hq : q % 256 = q := Nat.mod_eq_of_lt (by omega)
  have hqi : (q : Int) % 256 = q := by omega
  clear cT hp ha
  go_enter Tryz.func45, Tryz.ntmps45
  unfold z25 at hW0
  go_wp2_with fail
  try rw [hW0]
  clear hW0
  go_wp2_with (go_at_call 74; (with_reducible refine (CU.out _).mono ?_); rintro e w1 ⟨rfl, b1⟩; have k0 := Shp.tn_on k0 b1; have s1 := Nat.lt_of_lt_of_le s0 b1.size; have z1 := below_up z0 z0.size b1; have f0 := Nm.rd_on f0 b1; have g0 := rd_on g0 b1)
  obtain ⟨W1, hW1⟩ : ∃ W, w1.alloc (.cells #[.int .i64 4, .bool true, .bool true] 135) = W := ⟨_, rfl⟩
  have B1 := Blk.new w1 135 #[.int .i64 4, .bool true, .bool true]
  have k1 := Shp.tn_on k0 (below_alloc_ w1 (.cells #[.int .i64 4, .bool true, .bool true] 135))
  have f1 := Nm.rd_on f0 (below_alloc_ w1 (.cells #[.int .i64 4, .bool true, .bool true] 135))
  have g1 := rd_on g0 (below_alloc_ w1 (.cells #[.int .i64 4, .bool true, .bool true] 135))
  have z1' := z1.alloc z1.size (.cells #[.int .i64 4, .bool true, .bool true] 135)
  have s1' : w1.heap.size < (w1.alloc (.cells #[.int .i64 4, .bool true, .bool true] 135)).heap.size := by simp
  rw [hW1] at B1 k1 f1 g1 z1' s1'
  rw [hW1]
  clear hW1 k0 f0 g0 z1 s0 z0
  obtain ⟨m, hm⟩ : ∃ m, w1.heap.size = m := ⟨_, rfl⟩
  rw [hm] at B1 s1 s1'
  rw [hm]
  clear hm b1
  have q1 : w.heap.size + 2 < W1.heap.size := by omega
  have r1 : w.heap.size + 1 < W1.heap.size := by omega
  have t1 : w.heap.size < W1.heap.size := by omega
  have u0 := B1.c 0
  have u1 := B1.c 1
  have u2 := B1.c 2
  simp at u0 u1 u2
  go_wp2_with (first
    | (go_at_call 75; (with_reducible refine (CP.out _).mono ?_); rintro e w2 ⟨rfl, rfl⟩)
    | (go_at_call 75; (with_reducible refine (CA.out _).mono ?_); rintro e w3 ⟨rfl, rfl⟩))
  have hset := Shp.rd_set (S := kS) W1 (w.heap.size + 2) D.zK k1
  have z9 := below_setRow z1' (g := w.heap.size + 2) (by omega) (kS.v D.zK)
  exact bodyPost_ret (v := .tuple #[.agg (kS.v D.zK), .int .i64 5]) (by rw [results_cell_tmp rfl]; simp [asAddr, Result.andThen, lvk_of hset]) rfl ⟨rfl, z9⟩

set_option maxHeartbeats 4000000 in
theorem kof_n6 (cT : ∀ (x : D.Tg) (w : World), Calls Tryz.prog 77 #[.agg (nc x)] w fun e w' => e = .returned (.bool (D.right x)) ∧ Below w.heap.size w w') (q : Nat) (hp : q < 4) (b : Nat) (ha : b < 4) (n : Nm.D.Nm) (t : D.Tg) (hn : Nm.D.right n = false) (w : World) :
    Calls Tryz.prog 45 #[.int .i64 6, .int .i64 (q : Int), .int .i64 (b : Int), .agg (Nm.nc n), .agg (nc t)] w fun e w' => e = .returned (.tuple #[.agg (kS.v D.zK), .int .i64 15]) ∧ Below w.heap.size w w' := by
  obtain ⟨W0, hW0⟩ : ∃ W, ((w.alloc (.cells (Nm.nc n) 24)).alloc (.cells (nc t) 28)).alloc (.cells z25 30) = W := ⟨_, rfl⟩
  have f0 : Nm.rd W0 ⟨w.heap.size, 0, none⟩ = some n := by rw [← hW0]; exact Nm.rd_on (Nm.rd_on (Nm.rd_new w _ _ n rfl) (below_alloc_ _ _)) (below_alloc_ _ _)
  have g0 : rd W0 ⟨w.heap.size + 1, 0, none⟩ = some t := by rw [← hW0]; exact rd_on (rd_new _ _ _ t (by simp)) (below_alloc_ _ _)
  have k0 : Shp.tn 25 W0 (w.heap.size + 2) = true := by rw [← hW0]; exact Shp.tn_new _ _ _ _ _ (by simp) rfl
  have s0 : w.heap.size + 2 < W0.heap.size := by rw [← hW0]; simp
  have z0 : Below w.heap.size w W0 := by rw [← hW0]; exact (((Below.refl _ _).alloc (Nat.le_refl _) _).alloc (by simp) _).alloc (by simp; omega) _
  have CU := Lib.hid (fun w => (show Calls Tryz.prog 74 #[.int .i64 6] w fun e w' => e = .returned (.tuple #[.agg #[.int .i64 4, .bool true, .bool true], .bool true]) ∧ Below w.heap.size w w' from useOf_any 6 w))
  have CP := Lib.hid (fun w => (show Calls Tryz.prog 75 #[.int .i64 (q : Int), .int .i64 4] w fun e w' => e = .returned (.bool true) ∧ w = w' from by have := below_num (q : Int) 4 w; rwa [decide_eq_true (by omega)] at this))
  have CA := Lib.hid (fun w => (show Calls Tryz.prog 75 #[.int .i64 (b : Int), .int .i64 4] w fun e w' => e = .returned (.bool true) ∧ w = w' from by have := below_num (b : Int) 4 w; rwa [decide_eq_true (by omega)] at this))
  have CN := Lib.hid (fun w => (show Calls Tryz.prog 76 #[.agg (Nm.nc n)] w fun e w' => e = .returned (.bool false) ∧ Below w.heap.size w w' from by have := Nm.right_any n w; rwa [hn] at this))
  have hb : ∀ W, (bdk #[(0, .int .u8 6), (1, .int .u8 (q : Int))]).run Tryz.prog W = .ok (.agg (kS.v (D.mkK 6 q 0 Nm.D.zero D.zero))) W := fun W => run_bdk_2 W 6 q (by omega) (by omega)
  have hq : q % 256 = q := Nat.mod_eq_of_lt (by omega)
  have hqi : (q : Int) % 256 = q := by omega
  have hbi : (b : Int) % 256 = b := by omega
  have hs := fun (n : Nm.D.Nm) (t : D.Tg) => kset_a 6 q 0 n t b (by omega)
  clear cT hp ha hn
  go_enter Tryz.func45, Tryz.ntmps45
  unfold z25 at hW0
  go_wp2_with fail
  try rw [hW0]
  clear hW0
  go_wp2_with (go_at_call 74; (with_reducible refine (CU.out _).mono ?_); rintro e w1 ⟨rfl, b1⟩; have k0 := Shp.tn_on k0 b1; have s1 := Nat.lt_of_lt_of_le s0 b1.size; have z1 := below_up z0 z0.size b1; have f0 := Nm.rd_on f0 b1; have g0 := rd_on g0 b1)
  obtain ⟨W1, hW1⟩ : ∃ W, w1.alloc (.cells #[.int .i64 4, .bool true, .bool true] 135) = W := ⟨_, rfl⟩
  have B1 := Blk.new w1 135 #[.int .i64 4, .bool true, .bool true]
  have k1 := Shp.tn_on k0 (below_alloc_ w1 (.cells #[.int .i64 4, .bool true, .bool true] 135))
  have f1 := Nm.rd_on f0 (below_alloc_ w1 (.cells #[.int .i64 4, .bool true, .bool true] 135))
  have g1 := rd_on g0 (below_alloc_ w1 (.cells #[.int .i64 4, .bool true, .bool true] 135))
  have z1' := z1.alloc z1.size (.cells #[.int .i64 4, .bool true, .bool true] 135)
  have s1' : w1.heap.size < (w1.alloc (.cells #[.int .i64 4, .bool true, .bool true] 135)).heap.size := by simp
  rw [hW1] at B1 k1 f1 g1 z1' s1'
  rw [hW1]
  clear hW1 k0 f0 g0 z1 s0 z0
  obtain ⟨m, hm⟩ : ∃ m, w1.heap.size = m := ⟨_, rfl⟩
  rw [hm] at B1 s1 s1'
  rw [hm]
  clear hm b1
  have q1 : w.heap.size + 2 < W1.heap.size := by omega
  have r1 : w.heap.size + 1 < W1.heap.size := by omega
  have t1 : w.heap.size < W1.heap.size := by omega
  have u0 := B1.c 0
  have u1 := B1.c 1
  have u2 := B1.c 2
  simp at u0 u1 u2
  go_wp2_with (first
    | (go_at_call 75; (with_reducible refine (CP.out _).mono ?_); rintro e w2 ⟨rfl, rfl⟩)
    | (go_at_call 75; (with_reducible refine (CA.out _).mono ?_); rintro e w3 ⟨rfl, rfl⟩)
    | (go_at_call 76; (with_reducible refine (CN.out _).mono ?_); rintro e w4 ⟨rfl, b4⟩; have B4 := B1.on b4; have k4 := Shp.tn_on k1 b4; have f4 := Nm.rd_on f1 b4; have g4 := rd_on g1 b4; have z4' := below_up z1' z1'.size b4; have s4' := Nat.lt_of_lt_of_le s1' b4.size; have q4 := Nat.lt_of_lt_of_le q1 b4.size; have r4 := Nat.lt_of_lt_of_le r1 b4.size; have t4 := Nat.lt_of_lt_of_le t1 b4.size; have v0 := B4.c 0; have v1 := B4.c 1; have v2 := B4.c 2; simp at v0 v1 v2))
  have hset := Shp.rd_set (S := kS) w4 (w.heap.size + 2) D.zK k4
  have z9 := below_setRow z4' (g := w.heap.size + 2) (by omega) (kS.v D.zK)
  exact bodyPost_ret (v := .tuple #[.agg (kS.v D.zK), .int .i64 15]) (by rw [results_cell_tmp rfl]; simp [asAddr, Result.andThen, lvk_of hset]) rfl ⟨rfl, z9⟩

set_option maxHeartbeats 4000000 in
theorem kof_z6 (cT : ∀ (x : D.Tg) (w : World), Calls Tryz.prog 77 #[.agg (nc x)] w fun e w' => e = .returned (.bool (D.right x)) ∧ Below w.heap.size w w') (q : Nat) (hp : q < 4) (b : Nat) (ha : b < 4) (n : Nm.D.Nm) (t : D.Tg) (hn : Nm.D.right n = true) (ht : sm t D.zero = true) (w : World) :
    Calls Tryz.prog 45 #[.int .i64 6, .int .i64 (q : Int), .int .i64 (b : Int), .agg (Nm.nc n), .agg (nc t)] w fun e w' => e = .returned (.tuple #[.agg (kS.v D.zK), .int .i64 14]) ∧ Below w.heap.size w w' := by
  obtain ⟨W0, hW0⟩ : ∃ W, ((w.alloc (.cells (Nm.nc n) 24)).alloc (.cells (nc t) 28)).alloc (.cells z25 30) = W := ⟨_, rfl⟩
  have f0 : Nm.rd W0 ⟨w.heap.size, 0, none⟩ = some n := by rw [← hW0]; exact Nm.rd_on (Nm.rd_on (Nm.rd_new w _ _ n rfl) (below_alloc_ _ _)) (below_alloc_ _ _)
  have g0 : rd W0 ⟨w.heap.size + 1, 0, none⟩ = some t := by rw [← hW0]; exact rd_on (rd_new _ _ _ t (by simp)) (below_alloc_ _ _)
  have k0 : Shp.tn 25 W0 (w.heap.size + 2) = true := by rw [← hW0]; exact Shp.tn_new _ _ _ _ _ (by simp) rfl
  have s0 : w.heap.size + 2 < W0.heap.size := by rw [← hW0]; simp
  have z0 : Below w.heap.size w W0 := by rw [← hW0]; exact (((Below.refl _ _).alloc (Nat.le_refl _) _).alloc (by simp) _).alloc (by simp; omega) _
  have CU := Lib.hid (fun w => (show Calls Tryz.prog 74 #[.int .i64 6] w fun e w' => e = .returned (.tuple #[.agg #[.int .i64 4, .bool true, .bool true], .bool true]) ∧ Below w.heap.size w w' from useOf_any 6 w))
  have CP := Lib.hid (fun w => (show Calls Tryz.prog 75 #[.int .i64 (q : Int), .int .i64 4] w fun e w' => e = .returned (.bool true) ∧ w = w' from by have := below_num (q : Int) 4 w; rwa [decide_eq_true (by omega)] at this))
  have CA := Lib.hid (fun w => (show Calls Tryz.prog 75 #[.int .i64 (b : Int), .int .i64 4] w fun e w' => e = .returned (.bool true) ∧ w = w' from by have := below_num (b : Int) 4 w; rwa [decide_eq_true (by omega)] at this))
  have CN := Lib.hid (fun w => (show Calls Tryz.prog 76 #[.agg (Nm.nc n)] w fun e w' => e = .returned (.bool true) ∧ Below w.heap.size w w' from by have := Nm.right_any n w; rwa [hn] at this))
  have hb : ∀ W, (bdk #[(0, .int .u8 6), (1, .int .u8 (q : Int))]).run Tryz.prog W = .ok (.agg (kS.v (D.mkK 6 q 0 Nm.D.zero D.zero))) W := fun W => run_bdk_2 W 6 q (by omega) (by omega)
  have hq : q % 256 = q := Nat.mod_eq_of_lt (by omega)
  have hqi : (q : Int) % 256 = q := by omega
  have hbi : (b : Int) % 256 = b := by omega
  have hs := fun (n : Nm.D.Nm) (t : D.Tg) => kset_a 6 q 0 n t b (by omega)
  clear cT hp ha hn
  go_enter Tryz.func45, Tryz.ntmps45
  unfold z25 at hW0
  go_wp2_with fail
  try rw [hW0]
  clear hW0
  go_wp2_with (go_at_call 74; (with_reducible refine (CU.out _).mono ?_); rintro e w1 ⟨rfl, b1⟩; have k0 := Shp.tn_on k0 b1; have s1 := Nat.lt_of_lt_of_le s0 b1.size; have z1 := below_up z0 z0.size b1; have f0 := Nm.rd_on f0 b1; have g0 := rd_on g0 b1)
  obtain ⟨W1, hW1⟩ : ∃ W, w1.alloc (.cells #[.int .i64 4, .bool true, .bool true] 135) = W := ⟨_, rfl⟩
  have B1 := Blk.new w1 135 #[.int .i64 4, .bool true, .bool true]
  have k1 := Shp.tn_on k0 (below_alloc_ w1 (.cells #[.int .i64 4, .bool true, .bool true] 135))
  have f1 := Nm.rd_on f0 (below_alloc_ w1 (.cells #[.int .i64 4, .bool true, .bool true] 135))
  have g1 := rd_on g0 (below_alloc_ w1 (.cells #[.int .i64 4, .bool true, .bool true] 135))
  have z1' := z1.alloc z1.size (.cells #[.int .i64 4, .bool true, .bool true] 135)
  have s1' : w1.heap.size < (w1.alloc (.cells #[.int .i64 4, .bool true, .bool true] 135)).heap.size := by simp
  rw [hW1] at B1 k1 f1 g1 z1' s1'
  rw [hW1]
  clear hW1 k0 f0 g0 z1 s0 z0
  obtain ⟨m, hm⟩ : ∃ m, w1.heap.size = m := ⟨_, rfl⟩
  rw [hm] at B1 s1 s1'
  rw [hm]
  clear hm b1
  have q1 : w.heap.size + 2 < W1.heap.size := by omega
  have r1 : w.heap.size + 1 < W1.heap.size := by omega
  have t1 : w.heap.size < W1.heap.size := by omega
  have u0 := B1.c 0
  have u1 := B1.c 1
  have u2 := B1.c 2
  simp at u0 u1 u2
  go_wp2_with (first
    | (go_at_call 75; (with_reducible refine (CP.out _).mono ?_); rintro e w2 ⟨rfl, rfl⟩)
    | (go_at_call 75; (with_reducible refine (CA.out _).mono ?_); rintro e w3 ⟨rfl, rfl⟩)
    | (go_at_call 76; (with_reducible refine (CN.out _).mono ?_); rintro e w4 ⟨rfl, b4⟩; have B4 := B1.on b4; have k4 := Shp.tn_on k1 b4; have f4 := Nm.rd_on f1 b4; have g4 := rd_on g1 b4; have z4' := below_up z1' z1'.size b4; have s4' := Nat.lt_of_lt_of_le s1' b4.size; have q4 := Nat.lt_of_lt_of_le q1 b4.size; have r4 := Nat.lt_of_lt_of_le r1 b4.size; have t4 := Nat.lt_of_lt_of_le t1 b4.size; have v0 := B4.c 0; have v1 := B4.c 1; have v2 := B4.c 2; simp at v0 v1 v2))
  have hset := Shp.rd_set (S := kS) w4 (w.heap.size + 2) D.zK k4
  have z9 := below_setRow z4' (g := w.heap.size + 2) (by omega) (kS.v D.zK)
  exact bodyPost_ret (v := .tuple #[.agg (kS.v D.zK), .int .i64 14]) (by rw [results_cell_tmp rfl]; simp [asAddr, Result.andThen, lvk_of hset]) rfl ⟨rfl, z9⟩

set_option maxHeartbeats 4000000 in
theorem kof_w6 (cT : ∀ (x : D.Tg) (w : World), Calls Tryz.prog 77 #[.agg (nc x)] w fun e w' => e = .returned (.bool (D.right x)) ∧ Below w.heap.size w w') (q : Nat) (hp : q < 4) (b : Nat) (ha : b < 4) (n : Nm.D.Nm) (t : D.Tg) (hn : Nm.D.right n = true) (ht : sm t D.zero = false) (hr : D.right t = false) (w : World) :
    Calls Tryz.prog 45 #[.int .i64 6, .int .i64 (q : Int), .int .i64 (b : Int), .agg (Nm.nc n), .agg (nc t)] w fun e w' => e = .returned (.tuple #[.agg (kS.v D.zK), .int .i64 14]) ∧ Below w.heap.size w w' := by
  obtain ⟨W0, hW0⟩ : ∃ W, ((w.alloc (.cells (Nm.nc n) 24)).alloc (.cells (nc t) 28)).alloc (.cells z25 30) = W := ⟨_, rfl⟩
  have f0 : Nm.rd W0 ⟨w.heap.size, 0, none⟩ = some n := by rw [← hW0]; exact Nm.rd_on (Nm.rd_on (Nm.rd_new w _ _ n rfl) (below_alloc_ _ _)) (below_alloc_ _ _)
  have g0 : rd W0 ⟨w.heap.size + 1, 0, none⟩ = some t := by rw [← hW0]; exact rd_on (rd_new _ _ _ t (by simp)) (below_alloc_ _ _)
  have k0 : Shp.tn 25 W0 (w.heap.size + 2) = true := by rw [← hW0]; exact Shp.tn_new _ _ _ _ _ (by simp) rfl
  have s0 : w.heap.size + 2 < W0.heap.size := by rw [← hW0]; simp
  have z0 : Below w.heap.size w W0 := by rw [← hW0]; exact (((Below.refl _ _).alloc (Nat.le_refl _) _).alloc (by simp) _).alloc (by simp; omega) _
  have CU := Lib.hid (fun w => (show Calls Tryz.prog 74 #[.int .i64 6] w fun e w' => e = .returned (.tuple #[.agg #[.int .i64 4, .bool true, .bool true], .bool true]) ∧ Below w.heap.size w w' from useOf_any 6 w))
  have CP := Lib.hid (fun w => (show Calls Tryz.prog 75 #[.int .i64 (q : Int), .int .i64 4] w fun e w' => e = .returned (.bool true) ∧ w = w' from by have := below_num (q : Int) 4 w; rwa [decide_eq_true (by omega)] at this))
  have CA := Lib.hid (fun w => (show Calls Tryz.prog 75 #[.int .i64 (b : Int), .int .i64 4] w fun e w' => e = .returned (.bool true) ∧ w = w' from by have := below_num (b : Int) 4 w; rwa [decide_eq_true (by omega)] at this))
  have CN := Lib.hid (fun w => (show Calls Tryz.prog 76 #[.agg (Nm.nc n)] w fun e w' => e = .returned (.bool true) ∧ Below w.heap.size w w' from by have := Nm.right_any n w; rwa [hn] at this))
  have CT := Lib.hid (fun w => (show Calls Tryz.prog 77 #[.agg (nc t)] w fun e w' => e = .returned (.bool false) ∧ Below w.heap.size w w' from by have := cT t w; rwa [hr] at this))
  have hb : ∀ W, (bdk #[(0, .int .u8 6), (1, .int .u8 (q : Int))]).run Tryz.prog W = .ok (.agg (kS.v (D.mkK 6 q 0 Nm.D.zero D.zero))) W := fun W => run_bdk_2 W 6 q (by omega) (by omega)
  have hq : q % 256 = q := Nat.mod_eq_of_lt (by omega)
  have hqi : (q : Int) % 256 = q := by omega
  have hbi : (b : Int) % 256 = b := by omega
  have hs := fun (n : Nm.D.Nm) (t : D.Tg) => kset_a 6 q 0 n t b (by omega)
  clear cT hp ha hn hr
  go_enter Tryz.func45, Tryz.ntmps45
  unfold z25 at hW0
  go_wp2_with fail
  try rw [hW0]
  clear hW0
  go_wp2_with (go_at_call 74; (with_reducible refine (CU.out _).mono ?_); rintro e w1 ⟨rfl, b1⟩; have k0 := Shp.tn_on k0 b1; have s1 := Nat.lt_of_lt_of_le s0 b1.size; have z1 := below_up z0 z0.size b1; have f0 := Nm.rd_on f0 b1; have g0 := rd_on g0 b1)
  obtain ⟨W1, hW1⟩ : ∃ W, w1.alloc (.cells #[.int .i64 4, .bool true, .bool true] 135) = W := ⟨_, rfl⟩
  have B1 := Blk.new w1 135 #[.int .i64 4, .bool true, .bool true]
  have k1 := Shp.tn_on k0 (below_alloc_ w1 (.cells #[.int .i64 4, .bool true, .bool true] 135))
  have f1 := Nm.rd_on f0 (below_alloc_ w1 (.cells #[.int .i64 4, .bool true, .bool true] 135))
  have g1 := rd_on g0 (below_alloc_ w1 (.cells #[.int .i64 4, .bool true, .bool true] 135))
  have z1' := z1.alloc z1.size (.cells #[.int .i64 4, .bool true, .bool true] 135)
  have s1' : w1.heap.size < (w1.alloc (.cells #[.int .i64 4, .bool true, .bool true] 135)).heap.size := by simp
  rw [hW1] at B1 k1 f1 g1 z1' s1'
  rw [hW1]
  clear hW1 k0 f0 g0 z1 s0 z0
  obtain ⟨m, hm⟩ : ∃ m, w1.heap.size = m := ⟨_, rfl⟩
  rw [hm] at B1 s1 s1'
  rw [hm]
  clear hm b1
  have q1 : w.heap.size + 2 < W1.heap.size := by omega
  have r1 : w.heap.size + 1 < W1.heap.size := by omega
  have t1 : w.heap.size < W1.heap.size := by omega
  have u0 := B1.c 0
  have u1 := B1.c 1
  have u2 := B1.c 2
  simp at u0 u1 u2
  go_wp2_with (first
    | (go_at_call 75; (with_reducible refine (CP.out _).mono ?_); rintro e w2 ⟨rfl, rfl⟩)
    | (go_at_call 75; (with_reducible refine (CA.out _).mono ?_); rintro e w3 ⟨rfl, rfl⟩)
    | (go_at_call 76; (with_reducible refine (CN.out _).mono ?_); rintro e w4 ⟨rfl, b4⟩; have B4 := B1.on b4; have k4 := Shp.tn_on k1 b4; have f4 := Nm.rd_on f1 b4; have g4 := rd_on g1 b4; have z4' := below_up z1' z1'.size b4; have s4' := Nat.lt_of_lt_of_le s1' b4.size; have q4 := Nat.lt_of_lt_of_le q1 b4.size; have r4 := Nat.lt_of_lt_of_le r1 b4.size; have t4 := Nat.lt_of_lt_of_le t1 b4.size; have v0 := B4.c 0; have v1 := B4.c 1; have v2 := B4.c 2; simp at v0 v1 v2)
    | (go_at_call 77; (with_reducible refine (CT.out _).mono ?_); rintro e w5 ⟨rfl, b5⟩; have B5 := B4.on b5; have k5 := Shp.tn_on k4 b5; have f5 := Nm.rd_on f4 b5; have g5 := rd_on g4 b5; have z5' := below_up z4' z4'.size b5; have s5' := Nat.lt_of_lt_of_le s4' b5.size; have q5 := Nat.lt_of_lt_of_le q4 b5.size; have r5 := Nat.lt_of_lt_of_le r4 b5.size; have t5 := Nat.lt_of_lt_of_le t4 b5.size; have v0 := B5.c 0; have v1 := B5.c 1; have v2 := B5.c 2; simp at v0 v1 v2))
  have hset := Shp.rd_set (S := kS) w5 (w.heap.size + 2) D.zK k5
  have z9 := below_setRow z5' (g := w.heap.size + 2) (by omega) (kS.v D.zK)
  exact bodyPost_ret (v := .tuple #[.agg (kS.v D.zK), .int .i64 14]) (by rw [results_cell_tmp rfl]; simp [asAddr, Result.andThen, lvk_of hset]) rfl ⟨rfl, z9⟩

set_option maxHeartbeats 4000000 in
theorem kof_ok6 (cT : ∀ (x : D.Tg) (w : World), Calls Tryz.prog 77 #[.agg (nc x)] w fun e w' => e = .returned (.bool (D.right x)) ∧ Below w.heap.size w w') (q : Nat) (hp : q < 4) (b : Nat) (ha : b < 4) (n : Nm.D.Nm) (t : D.Tg) (hn : Nm.D.right n = true) (ht : sm t D.zero = false) (hr : D.right t = true) (w : World) :
    Calls Tryz.prog 45 #[.int .i64 6, .int .i64 (q : Int), .int .i64 (b : Int), .agg (Nm.nc n), .agg (nc t)] w fun e w' => e = .returned (.tuple #[.agg (kS.v (D.mkK 6 q b n t)), .int .i64 0]) ∧ Below w.heap.size w w' := by
  obtain ⟨W0, hW0⟩ : ∃ W, ((w.alloc (.cells (Nm.nc n) 24)).alloc (.cells (nc t) 28)).alloc (.cells z25 30) = W := ⟨_, rfl⟩
  have f0 : Nm.rd W0 ⟨w.heap.size, 0, none⟩ = some n := by rw [← hW0]; exact Nm.rd_on (Nm.rd_on (Nm.rd_new w _ _ n rfl) (below_alloc_ _ _)) (below_alloc_ _ _)
  have g0 : rd W0 ⟨w.heap.size + 1, 0, none⟩ = some t := by rw [← hW0]; exact rd_on (rd_new _ _ _ t (by simp)) (below_alloc_ _ _)
  have k0 : Shp.tn 25 W0 (w.heap.size + 2) = true := by rw [← hW0]; exact Shp.tn_new _ _ _ _ _ (by simp) rfl
  have s0 : w.heap.size + 2 < W0.heap.size := by rw [← hW0]; simp
  have z0 : Below w.heap.size w W0 := by rw [← hW0]; exact (((Below.refl _ _).alloc (Nat.le_refl _) _).alloc (by simp) _).alloc (by simp; omega) _
  have CU := Lib.hid (fun w => (show Calls Tryz.prog 74 #[.int .i64 6] w fun e w' => e = .returned (.tuple #[.agg #[.int .i64 4, .bool true, .bool true], .bool true]) ∧ Below w.heap.size w w' from useOf_any 6 w))
  have CP := Lib.hid (fun w => (show Calls Tryz.prog 75 #[.int .i64 (q : Int), .int .i64 4] w fun e w' => e = .returned (.bool true) ∧ w = w' from by have := below_num (q : Int) 4 w; rwa [decide_eq_true (by omega)] at this))
  have CA := Lib.hid (fun w => (show Calls Tryz.prog 75 #[.int .i64 (b : Int), .int .i64 4] w fun e w' => e = .returned (.bool true) ∧ w = w' from by have := below_num (b : Int) 4 w; rwa [decide_eq_true (by omega)] at this))
  have CN := Lib.hid (fun w => (show Calls Tryz.prog 76 #[.agg (Nm.nc n)] w fun e w' => e = .returned (.bool true) ∧ Below w.heap.size w w' from by have := Nm.right_any n w; rwa [hn] at this))
  have CT := Lib.hid (fun w => (show Calls Tryz.prog 77 #[.agg (nc t)] w fun e w' => e = .returned (.bool true) ∧ Below w.heap.size w w' from by have := cT t w; rwa [hr] at this))
  have hb : ∀ W, (bdk #[(0, .int .u8 6), (1, .int .u8 (q : Int))]).run Tryz.prog W = .ok (.agg (kS.v (D.mkK 6 q 0 Nm.D.zero D.zero))) W := fun W => run_bdk_2 W 6 q (by omega) (by omega)
  have hq : q % 256 = q := Nat.mod_eq_of_lt (by omega)
  have hqi : (q : Int) % 256 = q := by omega
  have hbi : (b : Int) % 256 = b := by omega
  have hs := fun (n : Nm.D.Nm) (t : D.Tg) => kset_a 6 q 0 n t b (by omega)
  clear cT hp ha hn hr
  go_enter Tryz.func45, Tryz.ntmps45
  unfold z25 at hW0
  go_wp2_with fail
  try rw [hW0]
  clear hW0
  go_wp2_with (go_at_call 74; (with_reducible refine (CU.out _).mono ?_); rintro e w1 ⟨rfl, b1⟩; have k0 := Shp.tn_on k0 b1; have s1 := Nat.lt_of_lt_of_le s0 b1.size; have z1 := below_up z0 z0.size b1; have f0 := Nm.rd_on f0 b1; have g0 := rd_on g0 b1)
  obtain ⟨W1, hW1⟩ : ∃ W, w1.alloc (.cells #[.int .i64 4, .bool true, .bool true] 135) = W := ⟨_, rfl⟩
  have B1 := Blk.new w1 135 #[.int .i64 4, .bool true, .bool true]
  have k1 := Shp.tn_on k0 (below_alloc_ w1 (.cells #[.int .i64 4, .bool true, .bool true] 135))
  have f1 := Nm.rd_on f0 (below_alloc_ w1 (.cells #[.int .i64 4, .bool true, .bool true] 135))
  have g1 := rd_on g0 (below_alloc_ w1 (.cells #[.int .i64 4, .bool true, .bool true] 135))
  have z1' := z1.alloc z1.size (.cells #[.int .i64 4, .bool true, .bool true] 135)
  have s1' : w1.heap.size < (w1.alloc (.cells #[.int .i64 4, .bool true, .bool true] 135)).heap.size := by simp
  rw [hW1] at B1 k1 f1 g1 z1' s1'
  rw [hW1]
  clear hW1 k0 f0 g0 z1 s0 z0
  obtain ⟨m, hm⟩ : ∃ m, w1.heap.size = m := ⟨_, rfl⟩
  rw [hm] at B1 s1 s1'
  rw [hm]
  clear hm b1
  have q1 : w.heap.size + 2 < W1.heap.size := by omega
  have r1 : w.heap.size + 1 < W1.heap.size := by omega
  have t1 : w.heap.size < W1.heap.size := by omega
  have u0 := B1.c 0
  have u1 := B1.c 1
  have u2 := B1.c 2
  simp at u0 u1 u2
  go_wp2_with (first
    | (go_at_call 75; (with_reducible refine (CP.out _).mono ?_); rintro e w2 ⟨rfl, rfl⟩)
    | (go_at_call 75; (with_reducible refine (CA.out _).mono ?_); rintro e w3 ⟨rfl, rfl⟩)
    | (go_at_call 76; (with_reducible refine (CN.out _).mono ?_); rintro e w4 ⟨rfl, b4⟩; have B4 := B1.on b4; have k4 := Shp.tn_on k1 b4; have f4 := Nm.rd_on f1 b4; have g4 := rd_on g1 b4; have z4' := below_up z1' z1'.size b4; have s4' := Nat.lt_of_lt_of_le s1' b4.size; have q4 := Nat.lt_of_lt_of_le q1 b4.size; have r4 := Nat.lt_of_lt_of_le r1 b4.size; have t4 := Nat.lt_of_lt_of_le t1 b4.size; have v0 := B4.c 0; have v1 := B4.c 1; have v2 := B4.c 2; simp at v0 v1 v2)
    | (go_at_call 77; (with_reducible refine (CT.out _).mono ?_); rintro e w5 ⟨rfl, b5⟩; have B5 := B4.on b5; have k5 := Shp.tn_on k4 b5; have f5 := Nm.rd_on f4 b5; have g5 := rd_on g4 b5; have z5' := below_up z4' z4'.size b5; have s5' := Nat.lt_of_lt_of_le s4' b5.size; have q5 := Nat.lt_of_lt_of_le q4 b5.size; have r5 := Nat.lt_of_lt_of_le r4 b5.size; have t5 := Nat.lt_of_lt_of_le t4 b5.size; have v0 := B5.c 0; have v1 := B5.c 1; have v2 := B5.c 2; simp at v0 v1 v2))
  have hset := Shp.rd_set (S := kS) (w5.alloc (.cells (kS.v (D.mkK 6 q b n t)) 30)) (w.heap.size + 2) (D.mkK 6 q b n t) (Shp.tn_on k5 (below_alloc_ _ _))
  have z9 := below_setRow (z5'.alloc z5'.size (.cells (kS.v (D.mkK 6 q b n t)) 30)) (g := w.heap.size + 2) (by omega) (kS.v (D.mkK 6 q b n t))
  exact bodyPost_ret (v := .tuple #[.agg (kS.v (D.mkK 6 q b n t)), .int .i64 0]) (by rw [results_cell_tmp rfl]; simp [asAddr, Result.andThen, lvk_of hset]) rfl ⟨rfl, z9⟩

namespace D
theorem kof_k {k p a : Int} {n : Nm.D.Nm} {t : Tg} (h : ¬ (1 ≤ k ∧ k ≤ 6)) : kof k p a n t = (zK, 16) := by
  have e : err k p a n t = 16 := by unfold err; rw [if_pos (by omega)]
  unfold kof; rw [e, if_neg (by decide)]
theorem kof_r {k p a : Int} {n : Nm.D.Nm} {t : Tg} (hk : 1 ≤ k ∧ k ≤ 6) (h : ¬ (0 ≤ p ∧ p < 4) ∨ (0 < ats k ∧ ¬ (0 ≤ a ∧ a < ats k))) : kof k p a n t = (zK, 5) := by
  have e : err k p a n t = 5 := by
    unfold err
    rw [if_neg (by omega), if_pos]
    rcases h with h | ⟨h, h'⟩
    · exact .inl (by omega)
    · exact .inr ⟨h, by omega⟩
  unfold kof; rw [e, if_neg (by decide)]
theorem kof_n {k p a : Int} {n : Nm.D.Nm} {t : Tg} (hk : 1 ≤ k ∧ k ≤ 6) (hp : 0 ≤ p ∧ p < 4) (ha : 0 < ats k → 0 ≤ a ∧ a < ats k) (hm : nmd k = true) (hn : Nm.D.right n = false) : kof k p a n t = (zK, 15) := by
  have e : err k p a n t = 15 := by
    unfold err
    rw [if_neg (by omega), if_neg, if_pos ⟨hm, hn⟩]
    rintro (h | ⟨h, h'⟩)
    · omega
    · have := ha h; omega
  unfold kof; rw [e, if_neg (by decide)]
theorem kof_t {k p a : Int} {n : Nm.D.Nm} {t : Tg} (hk : 1 ≤ k ∧ k ≤ 6) (hp : 0 ≤ p ∧ p < 4) (ha : 0 < ats k → 0 ≤ a ∧ a < ats k) (hn : nmd k = true → Nm.D.right n = true) (hm : tgd k = true) (ht : t = zero ∨ right t = false) : kof k p a n t = (zK, 14) := by
  have e : err k p a n t = 14 := by
    unfold err
    rw [if_neg (by omega), if_neg, if_neg, if_pos ⟨hm, ht⟩]
    · rintro ⟨h, h'⟩; rw [hn h] at h'; cases h'
    · rintro (h | ⟨h, h'⟩)
      · omega
      · have := ha h; omega
  unfold kof; rw [e, if_neg (by decide)]
theorem kof_ok {k p a : Int} {n : Nm.D.Nm} {t : Tg} (hk : 1 ≤ k ∧ k ≤ 6) (hp : 0 ≤ p ∧ p < 4) (ha : 0 < ats k → 0 ≤ a ∧ a < ats k) (hn : nmd k = true → Nm.D.right n = true) (ht : tgd k = true → t ≠ zero ∧ right t = true) : kof k p a n t = (mkI k p a n t, 0) := by
  have e : err k p a n t = 0 := err_of hk (by omega) ha hn ht
  unfold kof; rw [e, if_pos rfl]
end D
theorem sm_t {t u : D.Tg} (h : sm t u = true) : t = u := by simpa [sm] using h
theorem sm_f {t u : D.Tg} (h : sm t u = false) : t ≠ u := by simpa [sm] using h
theorem key_of_gen (cT : ∀ (x : D.Tg) (w : World), Calls Tryz.prog 77 #[.agg (nc x)] w fun e w' => e = .returned (.bool (D.right x)) ∧ Below w.heap.size w w') (k p a : Int) (n : Nm.D.Nm) (t : D.Tg) (w : World) :
    Calls Tryz.prog 45 #[.int .i64 k, .int .i64 p, .int .i64 a, .agg (Nm.nc n), .agg (nc t)] w fun e w' => e = .returned (.tuple #[.agg (kS.v (D.kof k p a n t).1), .int .i64 (D.kof k p a n t).2]) ∧ Below w.heap.size w w' := by
  by_cases hk : 1 ≤ k ∧ k ≤ 6
  · by_cases hp : 0 ≤ p ∧ p < 4
    · obtain ⟨q, rfl⟩ : ∃ q : Nat, p = q := ⟨p.toNat, by omega⟩
      rcases (isk k).1 hk with rfl | rfl | rfl | rfl | rfl | rfl
      · rw [D.kof_ok hk hp (fun h => absurd h (by decide)) (fun h => by cases h) (fun h => by cases h)]; exact kof_ok1 cT q (by omega) a n t w
      · by_cases ha : 0 ≤ a ∧ a < 16
        · obtain ⟨b, rfl⟩ : ∃ b : Nat, a = b := ⟨a.toNat, by omega⟩
          rw [D.kof_ok hk hp (fun _ => ha) (fun h => by cases h) (fun h => by cases h)]; exact kof_ok2 cT q (by omega) b (by omega) n t w
        · rw [D.kof_r hk (.inr ⟨by decide, ha⟩)]; exact kof_a2 cT q (by omega) a ha n t w
      · cases hz : sm t D.zero
        · cases hr : D.right t
          · rw [D.kof_t hk hp (fun h => absurd h (by decide)) (fun h => by cases h) rfl (.inr hr)]; exact kof_w3 cT q (by omega) a n t hz hr w
          · rw [D.kof_ok hk hp (fun h => absurd h (by decide)) (fun h => by cases h) (fun _ => ⟨sm_f hz, hr⟩)]; exact kof_ok3 cT q (by omega) a n t hz hr w
        · rw [D.kof_t hk hp (fun h => absurd h (by decide)) (fun h => by cases h) rfl (.inl (sm_t hz))]; exact kof_z3 cT q (by omega) a n t hz w
      · by_cases ha : 0 ≤ a ∧ a < 4
        · obtain ⟨b, rfl⟩ : ∃ b : Nat, a = b := ⟨a.toNat, by omega⟩
          rw [D.kof_ok hk hp (fun _ => ha) (fun h => by cases h) (fun h => by cases h)]; exact kof_ok4 cT q (by omega) b (by omega) n t w
        · rw [D.kof_r hk (.inr ⟨by decide, ha⟩)]; exact kof_a4 cT q (by omega) a ha n t w
      · by_cases ha : 0 ≤ a ∧ a < 4
        · obtain ⟨b, rfl⟩ : ∃ b : Nat, a = b := ⟨a.toNat, by omega⟩
          cases hn : Nm.D.right n
          · rw [D.kof_n hk hp (fun _ => ha) rfl hn]; exact kof_n5 cT q (by omega) b (by omega) n t hn w
          · rw [D.kof_ok hk hp (fun _ => ha) (fun _ => hn) (fun h => by cases h)]; exact kof_ok5 cT q (by omega) b (by omega) n t hn w
        · rw [D.kof_r hk (.inr ⟨by decide, ha⟩)]; exact kof_a5 cT q (by omega) a ha n t w
      · by_cases ha : 0 ≤ a ∧ a < 4
        · obtain ⟨b, rfl⟩ : ∃ b : Nat, a = b := ⟨a.toNat, by omega⟩
          cases hn : Nm.D.right n
          · rw [D.kof_n hk hp (fun _ => ha) rfl hn]; exact kof_n6 cT q (by omega) b (by omega) n t hn w
          · cases hz : sm t D.zero
            · cases hr : D.right t
              · rw [D.kof_t hk hp (fun _ => ha) (fun _ => hn) rfl (.inr hr)]; exact kof_w6 cT q (by omega) b (by omega) n t hn hz hr w
              · rw [D.kof_ok hk hp (fun _ => ha) (fun _ => hn) (fun _ => ⟨sm_f hz, hr⟩)]; exact kof_ok6 cT q (by omega) b (by omega) n t hn hz hr w
            · rw [D.kof_t hk hp (fun _ => ha) (fun _ => hn) rfl (.inl (sm_t hz))]; exact kof_z6 cT q (by omega) b (by omega) n t hn hz w
        · rw [D.kof_r hk (.inr ⟨by decide, ha⟩)]; exact kof_a6 cT q (by omega) a ha n t w
    · rcases (isk k).1 hk with rfl | rfl | rfl | rfl | rfl | rfl
      · rw [D.kof_r hk (.inl hp)]; exact kof_p1 cT p hp a n t w
      · rw [D.kof_r hk (.inl hp)]; exact kof_p2 cT p hp a n t w
      · rw [D.kof_r hk (.inl hp)]; exact kof_p3 cT p hp a n t w
      · rw [D.kof_r hk (.inl hp)]; exact kof_p4 cT p hp a n t w
      · rw [D.kof_r hk (.inl hp)]; exact kof_p5 cT p hp a n t w
      · rw [D.kof_r hk (.inl hp)]; exact kof_p6 cT p hp a n t w
  · rw [D.kof_k hk]; exact kof_none cT k hk p a n t w

end Go.Proofs.YtgobbdfgjgjigaaGreatDoor
