/-
  
-/
import Derived.Test.YtjlaffgbmcpldaaGreatDoorG35
import Derived.Test.YtjlaffgbmcpldaaGreatDoorG33
import Derived.Test.YtjlaffgbmcpldaaGreatDoorG34
import Derived.Test.YtjlaffgbmcpldaaGreatDoorG42
set_option linter.unusedVariables false
set_option linter.unusedSimpArgs false
set_option maxRecDepth 100000
namespace Go.Proofs.YtjlaffgbmcpldaaGreatDoor
open Go.RowKit
attribute [local go_sem ↓] Go.wp_at_zero Go.wp_at_succ ld_k lv_k st_k eq_k ne_k bd_k ld_b lv_b st_b eq_b ne_b bd_25 ld_r lv_r st_rk eq_rk ne_rk bd_r ld_p lv_p st_px bd_p Nm.ld_a Nm.ld_n Nm.st_a Nm.st_n Nm.eq_a Nm.eq_n Nm.ne_a Nm.ne_n Nm.lv_a Nm.lv_n ld_a ld_n st_a st_n eq_a eq_n ne_a ne_n lv_a lv_n
attribute [local go_sem] run_ldk run_lvk run_stk run_eqk run_nek run_bdk_z run_ldb run_lvb run_stb run_eqb run_neb run_ldr run_lvr run_strk run_eqrk run_nerk run_bdr_z run_ldp run_lvp run_stpx Nm.run_ld_a Nm.run_ld_n Nm.run_st_n Nm.run_eq_a Nm.run_eq_n Nm.run_ne_a Nm.run_ne_n Nm.run_lv_a Nm.run_lv_n Nm.rd_new Nm.rd_old Nm.rd_drew Nm.rd_drewN run_ld_a run_ld_n run_sw_a run_sw_n run_eq_a run_eq_n run_ne_a run_ne_n run_lv_a run_lv_n st_z ne_z eq_z rd_new rd_old rd_drew rd_drewN Shp.rd_new Shp.rd_old Shp.rd_drew Shp.rd_drewN Shp.rd_set Shp.tn_new Shp.tn_old Shp.tn_drew Shp.tn_drewN tn_new tn_old tn_drew tn_drewN rd_set setRow_alloc run_stn3 run_stt15

set_option maxHeartbeats 4000000 in
theorem rof_nlo (x : D.Rk) (hk : x.k < 1) (w : World) : Calls Tryz.prog 84 #[.agg (rS.v x)] w fun e w' => e = .returned (.tuple #[.agg (rS.v (D.zR)), .int .i64 16]) ∧ Below w.heap.size w w' := by
 obtain ⟨W0, hW0⟩ : ∃ W, (w.alloc (.cells (rS.v x) 63)).alloc (.cells zr25 63) = W := ⟨_, rfl⟩
 have B0 : Blk W0 w.heap.size 63 (rS.v x) := by rw [← hW0]; exact (Blk.new w _ _).alloc _
 have k0 : Shp.tn 25 W0 (w.heap.size + 1) = true := by rw [← hW0]; exact Shp.tn_new _ _ _ _ _ (by simp) rfl
 have z0 : Below w.heap.size w W0 := by rw [← hW0]; exact (below_alloc_ _ _).alloc (by simp) _
 unfold zr25 at hW0
 obtain ⟨c0, c1, c2, c3, c4⟩ := rf0 (Shp.rd_blk (S := rS) B0)
 have CU := Lib.hid (fun w => (show Calls Tryz.prog 119 #[.int .i64 x.k] w fun e w' => e = .returned (.tuple #[.int .i64 0, .bool false, .bool false]) ∧ w = w' from by have := uses_any x.k w; rwa [usev_none (by omega)] at this))
 skip
 go_enter Tryz.func84, Tryz.ntmps84
 go_wp2_with fail
 try rw [hW0]
 clear hW0
 go_wp2_with (first
  | (go_at_call 119; (with_reducible refine (CU.out _).mono ?_); rintro e w1 ⟨rfl, rfl⟩))
 have hset := Shp.rd_set (S := rS) W0 (w.heap.size + 1) (D.zR) k0
 have z9 := below_setRow z0 (Nat.le_succ _) (rS.v (D.zR))
 exact bodyPost_ret (v := .tuple #[.agg (rS.v (D.zR)), .int .i64 16]) (by rw [results_cell_tmp rfl]; simp [asAddr, Result.andThen, lvr_of hset]) rfl ⟨by rfl, z9⟩

set_option maxHeartbeats 4000000 in
theorem rof_nhi (x : D.Rk) (hk : 1 ≤ x.k) (hk' : 6 < x.k) (w : World) : Calls Tryz.prog 84 #[.agg (rS.v x)] w fun e w' => e = .returned (.tuple #[.agg (rS.v (D.zR)), .int .i64 16]) ∧ Below w.heap.size w w' := by
 obtain ⟨W0, hW0⟩ : ∃ W, (w.alloc (.cells (rS.v x) 63)).alloc (.cells zr25 63) = W := ⟨_, rfl⟩
 have B0 : Blk W0 w.heap.size 63 (rS.v x) := by rw [← hW0]; exact (Blk.new w _ _).alloc _
 have k0 : Shp.tn 25 W0 (w.heap.size + 1) = true := by rw [← hW0]; exact Shp.tn_new _ _ _ _ _ (by simp) rfl
 have z0 : Below w.heap.size w W0 := by rw [← hW0]; exact (below_alloc_ _ _).alloc (by simp) _
 unfold zr25 at hW0
 obtain ⟨c0, c1, c2, c3, c4⟩ := rf0 (Shp.rd_blk (S := rS) B0)
 have CU := Lib.hid (fun w => (show Calls Tryz.prog 119 #[.int .i64 x.k] w fun e w' => e = .returned (.tuple #[.int .i64 0, .bool false, .bool false]) ∧ w = w' from by have := uses_any x.k w; rwa [usev_none (by omega)] at this))
 skip
 go_enter Tryz.func84, Tryz.ntmps84
 go_wp2_with fail
 try rw [hW0]
 clear hW0
 go_wp2_with (first
  | (go_at_call 119; (with_reducible refine (CU.out _).mono ?_); rintro e w1 ⟨rfl, rfl⟩))
 have hset := Shp.rd_set (S := rS) W0 (w.heap.size + 1) (D.zR) k0
 have z9 := below_setRow z0 (Nat.le_succ _) (rS.v (D.zR))
 exact bodyPost_ret (v := .tuple #[.agg (rS.v (D.zR)), .int .i64 16]) (by rw [results_cell_tmp rfl]; simp [asAddr, Result.andThen, lvr_of hset]) rfl ⟨by rfl, z9⟩

set_option maxHeartbeats 4000000 in
theorem rof_plo1 (x : D.Rk) (hk : x.k = 1) (hp : x.p < 0) (w : World) : Calls Tryz.prog 84 #[.agg (rS.v x)] w fun e w' => e = .returned (.tuple #[.agg (rS.v (D.zR)), .int .i64 5]) ∧ Below w.heap.size w w' := by
 obtain ⟨W0, hW0⟩ : ∃ W, (w.alloc (.cells (rS.v x) 63)).alloc (.cells zr25 63) = W := ⟨_, rfl⟩
 have B0 : Blk W0 w.heap.size 63 (rS.v x) := by rw [← hW0]; exact (Blk.new w _ _).alloc _
 have k0 : Shp.tn 25 W0 (w.heap.size + 1) = true := by rw [← hW0]; exact Shp.tn_new _ _ _ _ _ (by simp) rfl
 have z0 : Below w.heap.size w W0 := by rw [← hW0]; exact (below_alloc_ _ _).alloc (by simp) _
 unfold zr25 at hW0
 obtain ⟨c0, c1, c2, c3, c4⟩ := rf0 (Shp.rd_blk (S := rS) B0)
 rw [hk] at c0
 have CU := Lib.hid (fun w => (show Calls Tryz.prog 119 #[.int .i64 1] w fun e w' => e = .returned (.tuple #[.int .i64 0, .bool false, .bool false]) ∧ w = w' from uses_any 1 w))
 skip
 go_enter Tryz.func84, Tryz.ntmps84
 go_wp2_with fail
 try rw [hW0]
 clear hW0
 go_wp2_with (first
  | (go_at_call 119; (with_reducible refine (CU.out _).mono ?_); rintro e w1 ⟨rfl, rfl⟩))
 have hset := Shp.rd_set (S := rS) W0 (w.heap.size + 1) (D.zR) k0
 have z9 := below_setRow z0 (Nat.le_succ _) (rS.v (D.zR))
 exact bodyPost_ret (v := .tuple #[.agg (rS.v (D.zR)), .int .i64 5]) (by rw [results_cell_tmp rfl]; simp [asAddr, Result.andThen, lvr_of hset]) rfl ⟨by rfl, z9⟩

set_option maxHeartbeats 4000000 in
theorem rof_phi1 (x : D.Rk) (hk : x.k = 1) (hp : 0 ≤ x.p) (hp' : 3 < x.p) (w : World) : Calls Tryz.prog 84 #[.agg (rS.v x)] w fun e w' => e = .returned (.tuple #[.agg (rS.v (D.zR)), .int .i64 5]) ∧ Below w.heap.size w w' := by
 obtain ⟨W0, hW0⟩ : ∃ W, (w.alloc (.cells (rS.v x) 63)).alloc (.cells zr25 63) = W := ⟨_, rfl⟩
 have B0 : Blk W0 w.heap.size 63 (rS.v x) := by rw [← hW0]; exact (Blk.new w _ _).alloc _
 have k0 : Shp.tn 25 W0 (w.heap.size + 1) = true := by rw [← hW0]; exact Shp.tn_new _ _ _ _ _ (by simp) rfl
 have z0 : Below w.heap.size w W0 := by rw [← hW0]; exact (below_alloc_ _ _).alloc (by simp) _
 unfold zr25 at hW0
 obtain ⟨c0, c1, c2, c3, c4⟩ := rf0 (Shp.rd_blk (S := rS) B0)
 rw [hk] at c0
 have CU := Lib.hid (fun w => (show Calls Tryz.prog 119 #[.int .i64 1] w fun e w' => e = .returned (.tuple #[.int .i64 0, .bool false, .bool false]) ∧ w = w' from uses_any 1 w))
 skip
 go_enter Tryz.func84, Tryz.ntmps84
 go_wp2_with fail
 try rw [hW0]
 clear hW0
 go_wp2_with (first
  | (go_at_call 119; (with_reducible refine (CU.out _).mono ?_); rintro e w1 ⟨rfl, rfl⟩))
 have hset := Shp.rd_set (S := rS) W0 (w.heap.size + 1) (D.zR) k0
 have z9 := below_setRow z0 (Nat.le_succ _) (rS.v (D.zR))
 exact bodyPost_ret (v := .tuple #[.agg (rS.v (D.zR)), .int .i64 5]) (by rw [results_cell_tmp rfl]; simp [asAddr, Result.andThen, lvr_of hset]) rfl ⟨by rfl, z9⟩

set_option maxHeartbeats 4000000 in
theorem rof_ok1 (x : D.Rk) (hk : x.k = 1) (hp : 0 ≤ x.p) (hp' : x.p ≤ 3) (w : World) : Calls Tryz.prog 84 #[.agg (rS.v x)] w fun e w' => e = .returned (.tuple #[.agg (rS.v (x.noA.noN.noT)), .int .i64 0]) ∧ Below w.heap.size w w' := by
 obtain ⟨W0, hW0⟩ : ∃ W, (w.alloc (.cells (rS.v x) 63)).alloc (.cells zr25 63) = W := ⟨_, rfl⟩
 have B0 : Blk W0 w.heap.size 63 (rS.v x) := by rw [← hW0]; exact (Blk.new w _ _).alloc _
 have k0 : Shp.tn 25 W0 (w.heap.size + 1) = true := by rw [← hW0]; exact Shp.tn_new _ _ _ _ _ (by simp) rfl
 have z0 : Below w.heap.size w W0 := by rw [← hW0]; exact (below_alloc_ _ _).alloc (by simp) _
 unfold zr25 at hW0
 obtain ⟨c0, c1, c2, c3, c4⟩ := rf0 (Shp.rd_blk (S := rS) B0)
 rw [hk] at c0
 have CU := Lib.hid (fun w => (show Calls Tryz.prog 119 #[.int .i64 1] w fun e w' => e = .returned (.tuple #[.int .i64 0, .bool false, .bool false]) ∧ w = w' from uses_any 1 w))
 obtain ⟨ta, tb, tc, th, T⟩ := tt_any x.t
 have CT := Lib.hid T.call
 clear T
 go_enter Tryz.func84, Tryz.ntmps84
 go_wp2_with fail
 try rw [hW0]
 clear hW0
 go_wp2_with (first
  | (go_at_call 119; (with_reducible refine (CU.out _).mono ?_); rintro e w1 ⟨rfl, rfl⟩)
  | (go_at_call 102; (with_reducible refine (CT.out _).mono ?_); rintro e w3 ⟨rfl, b3⟩; have B3 := B0.on b3; have k3 := Shp.tn_on k0 b3; have z3 := below_up z0 z0.size b3; obtain ⟨d0, d1, d2, d3, d4⟩ := rf0 (Shp.rd_blk (S := rS) B3); rw [hk] at d0; have b4 := below_alloc_ w3 (.cells #[.string ta, .string tb, .string tc] 204); have B4 := B3.on b4; have k4 := Shp.tn_on k3 b4; have z4 := below_up z3 z3.size b4; have q4 := B4.lt; have Z4 := Blk.new w3 204 #[.string ta, .string tb, .string tc]; have i4 := (Z4.c 0); simp at i4; obtain ⟨e0, e1, e2, e3, e5⟩ := rf0 (Shp.rd_blk (S := rS) B4); have hf4 := B4.f 2; have B5 := rk_a B4; have k5 : Shp.tn 25 ((w3.alloc (.cells #[.string ta, .string tb, .string tc] 204)).setCell ⟨w.heap.size, 2, none⟩ (.int .i64 0)) (w.heap.size + 1) = true := (Shp.tn_to (Below.heap_setCell _ _ _ _ (by show w.heap.size + 1 ≠ w.heap.size; omega))).trans k4; have z5 : Below w.heap.size w ((w3.alloc (.cells #[.string ta, .string tb, .string tc] 204)).setCell ⟨w.heap.size, 2, none⟩ (.int .i64 0)) := z4.setCell (Nat.le_refl _) _; obtain ⟨m6, B6⟩ := rk_n B5; have k6 := (Shp.tn_to (n := 25) (heap_setRow ((w3.alloc (.cells #[.string ta, .string tb, .string tc] 204)).setCell ⟨w.heap.size, 2, none⟩ (.int .i64 0)) w.heap.size (w.heap.size + 1) (rS.v x.noA.noN) (by omega))).trans k5; have z6 := below_setRow z5 (Nat.le_refl _) (rS.v x.noA.noN); obtain ⟨m7, B7⟩ := rk_t B6; have k7 := (Shp.tn_to (n := 25) (heap_setRow (((w3.alloc (.cells #[.string ta, .string tb, .string tc] 204)).setCell ⟨w.heap.size, 2, none⟩ (.int .i64 0)).setRow w.heap.size (rS.v x.noA.noN)) w.heap.size (w.heap.size + 1) (rS.v x.noA.noN.noT) (by omega))).trans k6; have z7 := below_setRow z6 (Nat.le_refl _) (rS.v x.noA.noN.noT); have r8 := Shp.rd_blk (S := rS) B7))
 have hset := Shp.rd_set (S := rS) ((((w3.alloc (.cells #[.string ta, .string tb, .string tc] 204)).setCell ⟨w.heap.size, 2, none⟩ (.int .i64 0)).setRow w.heap.size (rS.v x.noA.noN)).setRow w.heap.size (rS.v x.noA.noN.noT)) (w.heap.size + 1) (x.noA.noN.noT) k7
 have z9 := below_setRow z7 (Nat.le_succ _) (rS.v (x.noA.noN.noT))
 exact bodyPost_ret (v := .tuple #[.agg (rS.v (x.noA.noN.noT)), .int .i64 0]) (by rw [results_cell_tmp rfl]; simp [asAddr, Result.andThen, lvr_of hset]) rfl ⟨by rfl, z9⟩

set_option maxHeartbeats 4000000 in
theorem rof_plo2 (x : D.Rk) (hk : x.k = 2) (hp : x.p < 0) (w : World) : Calls Tryz.prog 84 #[.agg (rS.v x)] w fun e w' => e = .returned (.tuple #[.agg (rS.v (D.zR)), .int .i64 5]) ∧ Below w.heap.size w w' := by
 obtain ⟨W0, hW0⟩ : ∃ W, (w.alloc (.cells (rS.v x) 63)).alloc (.cells zr25 63) = W := ⟨_, rfl⟩
 have B0 : Blk W0 w.heap.size 63 (rS.v x) := by rw [← hW0]; exact (Blk.new w _ _).alloc _
 have k0 : Shp.tn 25 W0 (w.heap.size + 1) = true := by rw [← hW0]; exact Shp.tn_new _ _ _ _ _ (by simp) rfl
 have z0 : Below w.heap.size w W0 := by rw [← hW0]; exact (below_alloc_ _ _).alloc (by simp) _
 unfold zr25 at hW0
 obtain ⟨c0, c1, c2, c3, c4⟩ := rf0 (Shp.rd_blk (S := rS) B0)
 rw [hk] at c0
 have CU := Lib.hid (fun w => (show Calls Tryz.prog 119 #[.int .i64 2] w fun e w' => e = .returned (.tuple #[.int .i64 16, .bool false, .bool false]) ∧ w = w' from uses_any 2 w))
 skip
 go_enter Tryz.func84, Tryz.ntmps84
 go_wp2_with fail
 try rw [hW0]
 clear hW0
 go_wp2_with (first
  | (go_at_call 119; (with_reducible refine (CU.out _).mono ?_); rintro e w1 ⟨rfl, rfl⟩))
 have hset := Shp.rd_set (S := rS) W0 (w.heap.size + 1) (D.zR) k0
 have z9 := below_setRow z0 (Nat.le_succ _) (rS.v (D.zR))
 exact bodyPost_ret (v := .tuple #[.agg (rS.v (D.zR)), .int .i64 5]) (by rw [results_cell_tmp rfl]; simp [asAddr, Result.andThen, lvr_of hset]) rfl ⟨by rfl, z9⟩

set_option maxHeartbeats 4000000 in
theorem rof_alo2 (x : D.Rk) (hk : x.k = 2) (hp : 0 ≤ x.p) (hp' : x.p ≤ 3) (ha : x.a < 0) (w : World) : Calls Tryz.prog 84 #[.agg (rS.v x)] w fun e w' => e = .returned (.tuple #[.agg (rS.v (D.zR)), .int .i64 5]) ∧ Below w.heap.size w w' := by
 obtain ⟨W0, hW0⟩ : ∃ W, (w.alloc (.cells (rS.v x) 63)).alloc (.cells zr25 63) = W := ⟨_, rfl⟩
 have B0 : Blk W0 w.heap.size 63 (rS.v x) := by rw [← hW0]; exact (Blk.new w _ _).alloc _
 have k0 : Shp.tn 25 W0 (w.heap.size + 1) = true := by rw [← hW0]; exact Shp.tn_new _ _ _ _ _ (by simp) rfl
 have z0 : Below w.heap.size w W0 := by rw [← hW0]; exact (below_alloc_ _ _).alloc (by simp) _
 unfold zr25 at hW0
 obtain ⟨c0, c1, c2, c3, c4⟩ := rf0 (Shp.rd_blk (S := rS) B0)
 rw [hk] at c0
 have CU := Lib.hid (fun w => (show Calls Tryz.prog 119 #[.int .i64 2] w fun e w' => e = .returned (.tuple #[.int .i64 16, .bool false, .bool false]) ∧ w = w' from uses_any 2 w))
 skip
 go_enter Tryz.func84, Tryz.ntmps84
 go_wp2_with fail
 try rw [hW0]
 clear hW0
 go_wp2_with (first
  | (go_at_call 119; (with_reducible refine (CU.out _).mono ?_); rintro e w1 ⟨rfl, rfl⟩))
 have hset := Shp.rd_set (S := rS) W0 (w.heap.size + 1) (D.zR) k0
 have z9 := below_setRow z0 (Nat.le_succ _) (rS.v (D.zR))
 exact bodyPost_ret (v := .tuple #[.agg (rS.v (D.zR)), .int .i64 5]) (by rw [results_cell_tmp rfl]; simp [asAddr, Result.andThen, lvr_of hset]) rfl ⟨by rfl, z9⟩

set_option maxHeartbeats 4000000 in
theorem rof_phi2 (x : D.Rk) (hk : x.k = 2) (hp : 0 ≤ x.p) (hp' : 3 < x.p) (w : World) : Calls Tryz.prog 84 #[.agg (rS.v x)] w fun e w' => e = .returned (.tuple #[.agg (rS.v (D.zR)), .int .i64 5]) ∧ Below w.heap.size w w' := by
 obtain ⟨W0, hW0⟩ : ∃ W, (w.alloc (.cells (rS.v x) 63)).alloc (.cells zr25 63) = W := ⟨_, rfl⟩
 have B0 : Blk W0 w.heap.size 63 (rS.v x) := by rw [← hW0]; exact (Blk.new w _ _).alloc _
 have k0 : Shp.tn 25 W0 (w.heap.size + 1) = true := by rw [← hW0]; exact Shp.tn_new _ _ _ _ _ (by simp) rfl
 have z0 : Below w.heap.size w W0 := by rw [← hW0]; exact (below_alloc_ _ _).alloc (by simp) _
 unfold zr25 at hW0
 obtain ⟨c0, c1, c2, c3, c4⟩ := rf0 (Shp.rd_blk (S := rS) B0)
 rw [hk] at c0
 have CU := Lib.hid (fun w => (show Calls Tryz.prog 119 #[.int .i64 2] w fun e w' => e = .returned (.tuple #[.int .i64 16, .bool false, .bool false]) ∧ w = w' from uses_any 2 w))
 skip
 go_enter Tryz.func84, Tryz.ntmps84
 go_wp2_with fail
 try rw [hW0]
 clear hW0
 go_wp2_with (first
  | (go_at_call 119; (with_reducible refine (CU.out _).mono ?_); rintro e w1 ⟨rfl, rfl⟩))
 have hset := Shp.rd_set (S := rS) W0 (w.heap.size + 1) (D.zR) k0
 have z9 := below_setRow z0 (Nat.le_succ _) (rS.v (D.zR))
 exact bodyPost_ret (v := .tuple #[.agg (rS.v (D.zR)), .int .i64 5]) (by rw [results_cell_tmp rfl]; simp [asAddr, Result.andThen, lvr_of hset]) rfl ⟨by rfl, z9⟩

set_option maxHeartbeats 4000000 in
theorem rof_ahi2 (x : D.Rk) (hk : x.k = 2) (hp : 0 ≤ x.p) (hp' : x.p ≤ 3) (ha : 0 ≤ x.a) (ha' : 16 ≤ x.a) (w : World) : Calls Tryz.prog 84 #[.agg (rS.v x)] w fun e w' => e = .returned (.tuple #[.agg (rS.v (D.zR)), .int .i64 5]) ∧ Below w.heap.size w w' := by
 obtain ⟨W0, hW0⟩ : ∃ W, (w.alloc (.cells (rS.v x) 63)).alloc (.cells zr25 63) = W := ⟨_, rfl⟩
 have B0 : Blk W0 w.heap.size 63 (rS.v x) := by rw [← hW0]; exact (Blk.new w _ _).alloc _
 have k0 : Shp.tn 25 W0 (w.heap.size + 1) = true := by rw [← hW0]; exact Shp.tn_new _ _ _ _ _ (by simp) rfl
 have z0 : Below w.heap.size w W0 := by rw [← hW0]; exact (below_alloc_ _ _).alloc (by simp) _
 unfold zr25 at hW0
 obtain ⟨c0, c1, c2, c3, c4⟩ := rf0 (Shp.rd_blk (S := rS) B0)
 rw [hk] at c0
 have CU := Lib.hid (fun w => (show Calls Tryz.prog 119 #[.int .i64 2] w fun e w' => e = .returned (.tuple #[.int .i64 16, .bool false, .bool false]) ∧ w = w' from uses_any 2 w))
 skip
 go_enter Tryz.func84, Tryz.ntmps84
 go_wp2_with fail
 try rw [hW0]
 clear hW0
 go_wp2_with (first
  | (go_at_call 119; (with_reducible refine (CU.out _).mono ?_); rintro e w1 ⟨rfl, rfl⟩))
 have hset := Shp.rd_set (S := rS) W0 (w.heap.size + 1) (D.zR) k0
 have z9 := below_setRow z0 (Nat.le_succ _) (rS.v (D.zR))
 exact bodyPost_ret (v := .tuple #[.agg (rS.v (D.zR)), .int .i64 5]) (by rw [results_cell_tmp rfl]; simp [asAddr, Result.andThen, lvr_of hset]) rfl ⟨by rfl, z9⟩

set_option maxHeartbeats 4000000 in
theorem rof_ok2 (x : D.Rk) (hk : x.k = 2) (hp : 0 ≤ x.p) (hp' : x.p ≤ 3) (ha : 0 ≤ x.a) (ha' : x.a < 16) (w : World) : Calls Tryz.prog 84 #[.agg (rS.v x)] w fun e w' => e = .returned (.tuple #[.agg (rS.v (x.noN.noT)), .int .i64 0]) ∧ Below w.heap.size w w' := by
 obtain ⟨W0, hW0⟩ : ∃ W, (w.alloc (.cells (rS.v x) 63)).alloc (.cells zr25 63) = W := ⟨_, rfl⟩
 have B0 : Blk W0 w.heap.size 63 (rS.v x) := by rw [← hW0]; exact (Blk.new w _ _).alloc _
 have k0 : Shp.tn 25 W0 (w.heap.size + 1) = true := by rw [← hW0]; exact Shp.tn_new _ _ _ _ _ (by simp) rfl
 have z0 : Below w.heap.size w W0 := by rw [← hW0]; exact (below_alloc_ _ _).alloc (by simp) _
 unfold zr25 at hW0
 obtain ⟨c0, c1, c2, c3, c4⟩ := rf0 (Shp.rd_blk (S := rS) B0)
 rw [hk] at c0
 have CU := Lib.hid (fun w => (show Calls Tryz.prog 119 #[.int .i64 2] w fun e w' => e = .returned (.tuple #[.int .i64 16, .bool false, .bool false]) ∧ w = w' from uses_any 2 w))
 obtain ⟨ta, tb, tc, th, T⟩ := tt_any x.t
 have CT := Lib.hid T.call
 clear T
 go_enter Tryz.func84, Tryz.ntmps84
 go_wp2_with fail
 try rw [hW0]
 clear hW0
 go_wp2_with (first
  | (go_at_call 119; (with_reducible refine (CU.out _).mono ?_); rintro e w1 ⟨rfl, rfl⟩)
  | (go_at_call 102; (with_reducible refine (CT.out _).mono ?_); rintro e w3 ⟨rfl, b3⟩; have B3 := B0.on b3; have k3 := Shp.tn_on k0 b3; have z3 := below_up z0 z0.size b3; obtain ⟨d0, d1, d2, d3, d4⟩ := rf0 (Shp.rd_blk (S := rS) B3); rw [hk] at d0; have b4 := below_alloc_ w3 (.cells #[.string ta, .string tb, .string tc] 204); have B4 := B3.on b4; have k4 := Shp.tn_on k3 b4; have z4 := below_up z3 z3.size b4; have q4 := B4.lt; have Z4 := Blk.new w3 204 #[.string ta, .string tb, .string tc]; have i4 := (Z4.c 0); simp at i4; obtain ⟨m6, B6⟩ := rk_n B4; have k6 := (Shp.tn_to (n := 25) (heap_setRow (w3.alloc (.cells #[.string ta, .string tb, .string tc] 204)) w.heap.size (w.heap.size + 1) (rS.v x.noN) (by omega))).trans k4; have z6 := below_setRow z4 (Nat.le_refl _) (rS.v x.noN); obtain ⟨m7, B7⟩ := rk_t B6; have k7 := (Shp.tn_to (n := 25) (heap_setRow ((w3.alloc (.cells #[.string ta, .string tb, .string tc] 204)).setRow w.heap.size (rS.v x.noN)) w.heap.size (w.heap.size + 1) (rS.v x.noN.noT) (by omega))).trans k6; have z7 := below_setRow z6 (Nat.le_refl _) (rS.v x.noN.noT); have r8 := Shp.rd_blk (S := rS) B7))
 have hset := Shp.rd_set (S := rS) (((w3.alloc (.cells #[.string ta, .string tb, .string tc] 204)).setRow w.heap.size (rS.v x.noN)).setRow w.heap.size (rS.v x.noN.noT)) (w.heap.size + 1) (x.noN.noT) k7
 have z9 := below_setRow z7 (Nat.le_succ _) (rS.v (x.noN.noT))
 exact bodyPost_ret (v := .tuple #[.agg (rS.v (x.noN.noT)), .int .i64 0]) (by rw [results_cell_tmp rfl]; simp [asAddr, Result.andThen, lvr_of hset]) rfl ⟨by rfl, z9⟩

end Go.Proofs.YtjlaffgbmcpldaaGreatDoor
set_option linter.unusedVariables false
set_option linter.unusedSimpArgs false
set_option maxRecDepth 100000
namespace Go.Proofs.YtjlaffgbmcpldaaGreatDoor
open Go.RowKit
attribute [local go_sem ↓] Go.wp_at_zero Go.wp_at_succ ld_k lv_k st_k eq_k ne_k bd_k ld_b lv_b st_b eq_b ne_b bd_25 ld_r lv_r st_rk eq_rk ne_rk bd_r ld_p lv_p st_px bd_p Nm.ld_a Nm.ld_n Nm.st_a Nm.st_n Nm.eq_a Nm.eq_n Nm.ne_a Nm.ne_n Nm.lv_a Nm.lv_n ld_a ld_n st_a st_n eq_a eq_n ne_a ne_n lv_a lv_n
attribute [local go_sem] run_ldk run_lvk run_stk run_eqk run_nek run_bdk_z run_ldb run_lvb run_stb run_eqb run_neb run_ldr run_lvr run_strk run_eqrk run_nerk run_bdr_z run_ldp run_lvp run_stpx Nm.run_ld_a Nm.run_ld_n Nm.run_st_n Nm.run_eq_a Nm.run_eq_n Nm.run_ne_a Nm.run_ne_n Nm.run_lv_a Nm.run_lv_n Nm.rd_new Nm.rd_old Nm.rd_drew Nm.rd_drewN run_ld_a run_ld_n run_sw_a run_sw_n run_eq_a run_eq_n run_ne_a run_ne_n run_lv_a run_lv_n st_z ne_z eq_z rd_new rd_old rd_drew rd_drewN Shp.rd_new Shp.rd_old Shp.rd_drew Shp.rd_drewN Shp.rd_set Shp.tn_new Shp.tn_old Shp.tn_drew Shp.tn_drewN tn_new tn_old tn_drew tn_drewN rd_set setRow_alloc run_stn3 run_stt15

set_option maxHeartbeats 4000000 in
theorem rof_plo3 (x : D.Rk) (hk : x.k = 3) (hp : x.p < 0) (w : World) : Calls Tryz.prog 84 #[.agg (rS.v x)] w fun e w' => e = .returned (.tuple #[.agg (rS.v (D.zR)), .int .i64 5]) ∧ Below w.heap.size w w' := by
 obtain ⟨W0, hW0⟩ : ∃ W, (w.alloc (.cells (rS.v x) 63)).alloc (.cells zr25 63) = W := ⟨_, rfl⟩
 have B0 : Blk W0 w.heap.size 63 (rS.v x) := by rw [← hW0]; exact (Blk.new w _ _).alloc _
 have k0 : Shp.tn 25 W0 (w.heap.size + 1) = true := by rw [← hW0]; exact Shp.tn_new _ _ _ _ _ (by simp) rfl
 have z0 : Below w.heap.size w W0 := by rw [← hW0]; exact (below_alloc_ _ _).alloc (by simp) _
 unfold zr25 at hW0
 obtain ⟨c0, c1, c2, c3, c4⟩ := rf0 (Shp.rd_blk (S := rS) B0)
 rw [hk] at c0
 have CU := Lib.hid (fun w => (show Calls Tryz.prog 119 #[.int .i64 3] w fun e w' => e = .returned (.tuple #[.int .i64 0, .bool false, .bool true]) ∧ w = w' from uses_any 3 w))
 skip
 go_enter Tryz.func84, Tryz.ntmps84
 go_wp2_with fail
 try rw [hW0]
 clear hW0
 go_wp2_with (first
  | (go_at_call 119; (with_reducible refine (CU.out _).mono ?_); rintro e w1 ⟨rfl, rfl⟩))
 have hset := Shp.rd_set (S := rS) W0 (w.heap.size + 1) (D.zR) k0
 have z9 := below_setRow z0 (Nat.le_succ _) (rS.v (D.zR))
 exact bodyPost_ret (v := .tuple #[.agg (rS.v (D.zR)), .int .i64 5]) (by rw [results_cell_tmp rfl]; simp [asAddr, Result.andThen, lvr_of hset]) rfl ⟨by rfl, z9⟩

set_option maxHeartbeats 4000000 in
theorem rof_phi3 (x : D.Rk) (hk : x.k = 3) (hp : 0 ≤ x.p) (hp' : 3 < x.p) (w : World) : Calls Tryz.prog 84 #[.agg (rS.v x)] w fun e w' => e = .returned (.tuple #[.agg (rS.v (D.zR)), .int .i64 5]) ∧ Below w.heap.size w w' := by
 obtain ⟨W0, hW0⟩ : ∃ W, (w.alloc (.cells (rS.v x) 63)).alloc (.cells zr25 63) = W := ⟨_, rfl⟩
 have B0 : Blk W0 w.heap.size 63 (rS.v x) := by rw [← hW0]; exact (Blk.new w _ _).alloc _
 have k0 : Shp.tn 25 W0 (w.heap.size + 1) = true := by rw [← hW0]; exact Shp.tn_new _ _ _ _ _ (by simp) rfl
 have z0 : Below w.heap.size w W0 := by rw [← hW0]; exact (below_alloc_ _ _).alloc (by simp) _
 unfold zr25 at hW0
 obtain ⟨c0, c1, c2, c3, c4⟩ := rf0 (Shp.rd_blk (S := rS) B0)
 rw [hk] at c0
 have CU := Lib.hid (fun w => (show Calls Tryz.prog 119 #[.int .i64 3] w fun e w' => e = .returned (.tuple #[.int .i64 0, .bool false, .bool true]) ∧ w = w' from uses_any 3 w))
 skip
 go_enter Tryz.func84, Tryz.ntmps84
 go_wp2_with fail
 try rw [hW0]
 clear hW0
 go_wp2_with (first
  | (go_at_call 119; (with_reducible refine (CU.out _).mono ?_); rintro e w1 ⟨rfl, rfl⟩))
 have hset := Shp.rd_set (S := rS) W0 (w.heap.size + 1) (D.zR) k0
 have z9 := below_setRow z0 (Nat.le_succ _) (rS.v (D.zR))
 exact bodyPost_ret (v := .tuple #[.agg (rS.v (D.zR)), .int .i64 5]) (by rw [results_cell_tmp rfl]; simp [asAddr, Result.andThen, lvr_of hset]) rfl ⟨by rfl, z9⟩

set_option maxHeartbeats 4000000 in
theorem rof_z3 (x : D.Rk) (hk : x.k = 3) (hp : 0 ≤ x.p) (hp' : x.p ≤ 3) (ht : x.t = D.zero) (w : World) : Calls Tryz.prog 84 #[.agg (rS.v x)] w fun e w' => e = .returned (.tuple #[.agg (rS.v (D.zR)), .int .i64 14]) ∧ Below w.heap.size w w' := by
 obtain ⟨W0, hW0⟩ : ∃ W, (w.alloc (.cells (rS.v x) 63)).alloc (.cells zr25 63) = W := ⟨_, rfl⟩
 have B0 : Blk W0 w.heap.size 63 (rS.v x) := by rw [← hW0]; exact (Blk.new w _ _).alloc _
 have k0 : Shp.tn 25 W0 (w.heap.size + 1) = true := by rw [← hW0]; exact Shp.tn_new _ _ _ _ _ (by simp) rfl
 have z0 : Below w.heap.size w W0 := by rw [← hW0]; exact (below_alloc_ _ _).alloc (by simp) _
 unfold zr25 at hW0
 obtain ⟨c0, c1, c2, c3, c4⟩ := rf0 (Shp.rd_blk (S := rS) B0)
 rw [hk] at c0
 have CU := Lib.hid (fun w => (show Calls Tryz.prog 119 #[.int .i64 3] w fun e w' => e = .returned (.tuple #[.int .i64 0, .bool false, .bool true]) ∧ w = w' from uses_any 3 w))
 obtain ⟨ta, tb, tc, th, T⟩ := tt_any x.t
 have hta : ta.toList.isEmpty = true := T.lang.2 (.inl ht)
 have CT := Lib.hid T.call
 cases th
 all_goals
  clear T ht
  go_enter Tryz.func84, Tryz.ntmps84
  go_wp2_with fail
  try rw [hW0]
  clear hW0
  go_wp2_with (first
   | (go_at_call 119; (with_reducible refine (CU.out _).mono ?_); rintro e w1 ⟨rfl, rfl⟩)
   | (go_at_call 102; (with_reducible refine (CT.out _).mono ?_); rintro e w3 ⟨rfl, b3⟩; have B3 := B0.on b3; have k3 := Shp.tn_on k0 b3; have z3 := below_up z0 z0.size b3; obtain ⟨d0, d1, d2, d3, d4⟩ := rf0 (Shp.rd_blk (S := rS) B3); rw [hk] at d0; have b4 := below_alloc_ w3 (.cells #[.string ta, .string tb, .string tc] 204); have B4 := B3.on b4; have k4 := Shp.tn_on k3 b4; have z4 := below_up z3 z3.size b4; have q4 := B4.lt; have Z4 := Blk.new w3 204 #[.string ta, .string tb, .string tc]; have i4 := (Z4.c 0); simp at i4))
  have hset := Shp.rd_set (S := rS) (w3.alloc (.cells #[.string ta, .string tb, .string tc] 204)) (w.heap.size + 1) (D.zR) k4
  have z9 := below_setRow z4 (Nat.le_succ _) (rS.v (D.zR))
  exact bodyPost_ret (v := .tuple #[.agg (rS.v (D.zR)), .int .i64 14]) (by rw [results_cell_tmp rfl]; simp [asAddr, Result.andThen, lvr_of hset]) rfl ⟨by rfl, z9⟩

set_option maxHeartbeats 4000000 in
theorem rof_w3 (x : D.Rk) (hk : x.k = 3) (hp : 0 ≤ x.p) (hp' : x.p ≤ 3) (hr : D.right x.t = false) (w : World) : Calls Tryz.prog 84 #[.agg (rS.v x)] w fun e w' => e = .returned (.tuple #[.agg (rS.v (D.zR)), .int .i64 14]) ∧ Below w.heap.size w w' := by
 obtain ⟨W0, hW0⟩ : ∃ W, (w.alloc (.cells (rS.v x) 63)).alloc (.cells zr25 63) = W := ⟨_, rfl⟩
 have B0 : Blk W0 w.heap.size 63 (rS.v x) := by rw [← hW0]; exact (Blk.new w _ _).alloc _
 have k0 : Shp.tn 25 W0 (w.heap.size + 1) = true := by rw [← hW0]; exact Shp.tn_new _ _ _ _ _ (by simp) rfl
 have z0 : Below w.heap.size w W0 := by rw [← hW0]; exact (below_alloc_ _ _).alloc (by simp) _
 unfold zr25 at hW0
 obtain ⟨c0, c1, c2, c3, c4⟩ := rf0 (Shp.rd_blk (S := rS) B0)
 rw [hk] at c0
 have CU := Lib.hid (fun w => (show Calls Tryz.prog 119 #[.int .i64 3] w fun e w' => e = .returned (.tuple #[.int .i64 0, .bool false, .bool true]) ∧ w = w' from uses_any 3 w))
 obtain ⟨ta, tb, tc, th, T⟩ := tt_any x.t
 have hth : th = false := T.is.trans hr
 subst hth
 have CT := Lib.hid T.call
 clear T hr
 go_enter Tryz.func84, Tryz.ntmps84
 go_wp2_with fail
 try rw [hW0]
 clear hW0
 go_wp2_with (first
  | (go_at_call 119; (with_reducible refine (CU.out _).mono ?_); rintro e w1 ⟨rfl, rfl⟩)
  | (go_at_call 102; (with_reducible refine (CT.out _).mono ?_); rintro e w3 ⟨rfl, b3⟩; have B3 := B0.on b3; have k3 := Shp.tn_on k0 b3; have z3 := below_up z0 z0.size b3; obtain ⟨d0, d1, d2, d3, d4⟩ := rf0 (Shp.rd_blk (S := rS) B3); rw [hk] at d0; have b4 := below_alloc_ w3 (.cells #[.string ta, .string tb, .string tc] 204); have B4 := B3.on b4; have k4 := Shp.tn_on k3 b4; have z4 := below_up z3 z3.size b4; have q4 := B4.lt; have Z4 := Blk.new w3 204 #[.string ta, .string tb, .string tc]; have i4 := (Z4.c 0); simp at i4))
 have hset := Shp.rd_set (S := rS) (w3.alloc (.cells #[.string ta, .string tb, .string tc] 204)) (w.heap.size + 1) (D.zR) k4
 have z9 := below_setRow z4 (Nat.le_succ _) (rS.v (D.zR))
 exact bodyPost_ret (v := .tuple #[.agg (rS.v (D.zR)), .int .i64 14]) (by rw [results_cell_tmp rfl]; simp [asAddr, Result.andThen, lvr_of hset]) rfl ⟨by rfl, z9⟩

set_option maxHeartbeats 4000000 in
theorem rof_ok3 (x : D.Rk) (hk : x.k = 3) (hp : 0 ≤ x.p) (hp' : x.p ≤ 3) (ht : x.t ≠ D.zero) (hr : D.right x.t = true) (w : World) : Calls Tryz.prog 84 #[.agg (rS.v x)] w fun e w' => e = .returned (.tuple #[.agg (rS.v (x.noA.noN)), .int .i64 0]) ∧ Below w.heap.size w w' := by
 obtain ⟨W0, hW0⟩ : ∃ W, (w.alloc (.cells (rS.v x) 63)).alloc (.cells zr25 63) = W := ⟨_, rfl⟩
 have B0 : Blk W0 w.heap.size 63 (rS.v x) := by rw [← hW0]; exact (Blk.new w _ _).alloc _
 have k0 : Shp.tn 25 W0 (w.heap.size + 1) = true := by rw [← hW0]; exact Shp.tn_new _ _ _ _ _ (by simp) rfl
 have z0 : Below w.heap.size w W0 := by rw [← hW0]; exact (below_alloc_ _ _).alloc (by simp) _
 unfold zr25 at hW0
 obtain ⟨c0, c1, c2, c3, c4⟩ := rf0 (Shp.rd_blk (S := rS) B0)
 rw [hk] at c0
 have CU := Lib.hid (fun w => (show Calls Tryz.prog 119 #[.int .i64 3] w fun e w' => e = .returned (.tuple #[.int .i64 0, .bool false, .bool true]) ∧ w = w' from uses_any 3 w))
 obtain ⟨ta, tb, tc, th, T⟩ := tt_any x.t
 have hth : th = true := T.is.trans hr
 have hta : ta.toList.isEmpty = false := by cases h : ta.toList.isEmpty with | false => rfl | true => exact absurd (T.lang.1 h) (by rintro (h | h); exact ht h; rw [hr] at h; cases h)
 subst hth
 have CT := Lib.hid T.call
 clear T ht hr
 go_enter Tryz.func84, Tryz.ntmps84
 go_wp2_with fail
 try rw [hW0]
 clear hW0
 go_wp2_with (first
  | (go_at_call 119; (with_reducible refine (CU.out _).mono ?_); rintro e w1 ⟨rfl, rfl⟩)
  | (go_at_call 102; (with_reducible refine (CT.out _).mono ?_); rintro e w3 ⟨rfl, b3⟩; have B3 := B0.on b3; have k3 := Shp.tn_on k0 b3; have z3 := below_up z0 z0.size b3; obtain ⟨d0, d1, d2, d3, d4⟩ := rf0 (Shp.rd_blk (S := rS) B3); rw [hk] at d0; have b4 := below_alloc_ w3 (.cells #[.string ta, .string tb, .string tc] 204); have B4 := B3.on b4; have k4 := Shp.tn_on k3 b4; have z4 := below_up z3 z3.size b4; have q4 := B4.lt; have Z4 := Blk.new w3 204 #[.string ta, .string tb, .string tc]; have i4 := (Z4.c 0); simp at i4; obtain ⟨e0, e1, e2, e3, e5⟩ := rf0 (Shp.rd_blk (S := rS) B4); have hf4 := B4.f 2; have B5 := rk_a B4; have k5 : Shp.tn 25 ((w3.alloc (.cells #[.string ta, .string tb, .string tc] 204)).setCell ⟨w.heap.size, 2, none⟩ (.int .i64 0)) (w.heap.size + 1) = true := (Shp.tn_to (Below.heap_setCell _ _ _ _ (by show w.heap.size + 1 ≠ w.heap.size; omega))).trans k4; have z5 : Below w.heap.size w ((w3.alloc (.cells #[.string ta, .string tb, .string tc] 204)).setCell ⟨w.heap.size, 2, none⟩ (.int .i64 0)) := z4.setCell (Nat.le_refl _) _; obtain ⟨m6, B6⟩ := rk_n B5; have k6 := (Shp.tn_to (n := 25) (heap_setRow ((w3.alloc (.cells #[.string ta, .string tb, .string tc] 204)).setCell ⟨w.heap.size, 2, none⟩ (.int .i64 0)) w.heap.size (w.heap.size + 1) (rS.v x.noA.noN) (by omega))).trans k5; have z6 := below_setRow z5 (Nat.le_refl _) (rS.v x.noA.noN); have r8 := Shp.rd_blk (S := rS) B6))
 have hset := Shp.rd_set (S := rS) (((w3.alloc (.cells #[.string ta, .string tb, .string tc] 204)).setCell ⟨w.heap.size, 2, none⟩ (.int .i64 0)).setRow w.heap.size (rS.v x.noA.noN)) (w.heap.size + 1) (x.noA.noN) k6
 have z9 := below_setRow z6 (Nat.le_succ _) (rS.v (x.noA.noN))
 exact bodyPost_ret (v := .tuple #[.agg (rS.v (x.noA.noN)), .int .i64 0]) (by rw [results_cell_tmp rfl]; simp [asAddr, Result.andThen, lvr_of hset]) rfl ⟨by rfl, z9⟩

set_option maxHeartbeats 4000000 in
theorem rof_plo4 (x : D.Rk) (hk : x.k = 4) (hp : x.p < 0) (w : World) : Calls Tryz.prog 84 #[.agg (rS.v x)] w fun e w' => e = .returned (.tuple #[.agg (rS.v (D.zR)), .int .i64 5]) ∧ Below w.heap.size w w' := by
 obtain ⟨W0, hW0⟩ : ∃ W, (w.alloc (.cells (rS.v x) 63)).alloc (.cells zr25 63) = W := ⟨_, rfl⟩
 have B0 : Blk W0 w.heap.size 63 (rS.v x) := by rw [← hW0]; exact (Blk.new w _ _).alloc _
 have k0 : Shp.tn 25 W0 (w.heap.size + 1) = true := by rw [← hW0]; exact Shp.tn_new _ _ _ _ _ (by simp) rfl
 have z0 : Below w.heap.size w W0 := by rw [← hW0]; exact (below_alloc_ _ _).alloc (by simp) _
 unfold zr25 at hW0
 obtain ⟨c0, c1, c2, c3, c4⟩ := rf0 (Shp.rd_blk (S := rS) B0)
 rw [hk] at c0
 have CU := Lib.hid (fun w => (show Calls Tryz.prog 119 #[.int .i64 4] w fun e w' => e = .returned (.tuple #[.int .i64 4, .bool false, .bool false]) ∧ w = w' from uses_any 4 w))
 skip
 go_enter Tryz.func84, Tryz.ntmps84
 go_wp2_with fail
 try rw [hW0]
 clear hW0
 go_wp2_with (first
  | (go_at_call 119; (with_reducible refine (CU.out _).mono ?_); rintro e w1 ⟨rfl, rfl⟩))
 have hset := Shp.rd_set (S := rS) W0 (w.heap.size + 1) (D.zR) k0
 have z9 := below_setRow z0 (Nat.le_succ _) (rS.v (D.zR))
 exact bodyPost_ret (v := .tuple #[.agg (rS.v (D.zR)), .int .i64 5]) (by rw [results_cell_tmp rfl]; simp [asAddr, Result.andThen, lvr_of hset]) rfl ⟨by rfl, z9⟩

set_option maxHeartbeats 4000000 in
theorem rof_alo4 (x : D.Rk) (hk : x.k = 4) (hp : 0 ≤ x.p) (hp' : x.p ≤ 3) (ha : x.a < 0) (w : World) : Calls Tryz.prog 84 #[.agg (rS.v x)] w fun e w' => e = .returned (.tuple #[.agg (rS.v (D.zR)), .int .i64 5]) ∧ Below w.heap.size w w' := by
 obtain ⟨W0, hW0⟩ : ∃ W, (w.alloc (.cells (rS.v x) 63)).alloc (.cells zr25 63) = W := ⟨_, rfl⟩
 have B0 : Blk W0 w.heap.size 63 (rS.v x) := by rw [← hW0]; exact (Blk.new w _ _).alloc _
 have k0 : Shp.tn 25 W0 (w.heap.size + 1) = true := by rw [← hW0]; exact Shp.tn_new _ _ _ _ _ (by simp) rfl
 have z0 : Below w.heap.size w W0 := by rw [← hW0]; exact (below_alloc_ _ _).alloc (by simp) _
 unfold zr25 at hW0
 obtain ⟨c0, c1, c2, c3, c4⟩ := rf0 (Shp.rd_blk (S := rS) B0)
 rw [hk] at c0
 have CU := Lib.hid (fun w => (show Calls Tryz.prog 119 #[.int .i64 4] w fun e w' => e = .returned (.tuple #[.int .i64 4, .bool false, .bool false]) ∧ w = w' from uses_any 4 w))
 skip
 go_enter Tryz.func84, Tryz.ntmps84
 go_wp2_with fail
 try rw [hW0]
 clear hW0
 go_wp2_with (first
  | (go_at_call 119; (with_reducible refine (CU.out _).mono ?_); rintro e w1 ⟨rfl, rfl⟩))
 have hset := Shp.rd_set (S := rS) W0 (w.heap.size + 1) (D.zR) k0
 have z9 := below_setRow z0 (Nat.le_succ _) (rS.v (D.zR))
 exact bodyPost_ret (v := .tuple #[.agg (rS.v (D.zR)), .int .i64 5]) (by rw [results_cell_tmp rfl]; simp [asAddr, Result.andThen, lvr_of hset]) rfl ⟨by rfl, z9⟩

set_option maxHeartbeats 4000000 in
theorem rof_phi4 (x : D.Rk) (hk : x.k = 4) (hp : 0 ≤ x.p) (hp' : 3 < x.p) (w : World) : Calls Tryz.prog 84 #[.agg (rS.v x)] w fun e w' => e = .returned (.tuple #[.agg (rS.v (D.zR)), .int .i64 5]) ∧ Below w.heap.size w w' := by
 obtain ⟨W0, hW0⟩ : ∃ W, (w.alloc (.cells (rS.v x) 63)).alloc (.cells zr25 63) = W := ⟨_, rfl⟩
 have B0 : Blk W0 w.heap.size 63 (rS.v x) := by rw [← hW0]; exact (Blk.new w _ _).alloc _
 have k0 : Shp.tn 25 W0 (w.heap.size + 1) = true := by rw [← hW0]; exact Shp.tn_new _ _ _ _ _ (by simp) rfl
 have z0 : Below w.heap.size w W0 := by rw [← hW0]; exact (below_alloc_ _ _).alloc (by simp) _
 unfold zr25 at hW0
 obtain ⟨c0, c1, c2, c3, c4⟩ := rf0 (Shp.rd_blk (S := rS) B0)
 rw [hk] at c0
 have CU := Lib.hid (fun w => (show Calls Tryz.prog 119 #[.int .i64 4] w fun e w' => e = .returned (.tuple #[.int .i64 4, .bool false, .bool false]) ∧ w = w' from uses_any 4 w))
 skip
 go_enter Tryz.func84, Tryz.ntmps84
 go_wp2_with fail
 try rw [hW0]
 clear hW0
 go_wp2_with (first
  | (go_at_call 119; (with_reducible refine (CU.out _).mono ?_); rintro e w1 ⟨rfl, rfl⟩))
 have hset := Shp.rd_set (S := rS) W0 (w.heap.size + 1) (D.zR) k0
 have z9 := below_setRow z0 (Nat.le_succ _) (rS.v (D.zR))
 exact bodyPost_ret (v := .tuple #[.agg (rS.v (D.zR)), .int .i64 5]) (by rw [results_cell_tmp rfl]; simp [asAddr, Result.andThen, lvr_of hset]) rfl ⟨by rfl, z9⟩

set_option maxHeartbeats 4000000 in
theorem rof_ahi4 (x : D.Rk) (hk : x.k = 4) (hp : 0 ≤ x.p) (hp' : x.p ≤ 3) (ha : 0 ≤ x.a) (ha' : 4 ≤ x.a) (w : World) : Calls Tryz.prog 84 #[.agg (rS.v x)] w fun e w' => e = .returned (.tuple #[.agg (rS.v (D.zR)), .int .i64 5]) ∧ Below w.heap.size w w' := by
 obtain ⟨W0, hW0⟩ : ∃ W, (w.alloc (.cells (rS.v x) 63)).alloc (.cells zr25 63) = W := ⟨_, rfl⟩
 have B0 : Blk W0 w.heap.size 63 (rS.v x) := by rw [← hW0]; exact (Blk.new w _ _).alloc _
 have k0 : Shp.tn 25 W0 (w.heap.size + 1) = true := by rw [← hW0]; exact Shp.tn_new _ _ _ _ _ (by simp) rfl
 have z0 : Below w.heap.size w W0 := by rw [← hW0]; exact (below_alloc_ _ _).alloc (by simp) _
 unfold zr25 at hW0
 obtain ⟨c0, c1, c2, c3, c4⟩ := rf0 (Shp.rd_blk (S := rS) B0)
 rw [hk] at c0
 have CU := Lib.hid (fun w => (show Calls Tryz.prog 119 #[.int .i64 4] w fun e w' => e = .returned (.tuple #[.int .i64 4, .bool false, .bool false]) ∧ w = w' from uses_any 4 w))
 skip
 go_enter Tryz.func84, Tryz.ntmps84
 go_wp2_with fail
 try rw [hW0]
 clear hW0
 go_wp2_with (first
  | (go_at_call 119; (with_reducible refine (CU.out _).mono ?_); rintro e w1 ⟨rfl, rfl⟩))
 have hset := Shp.rd_set (S := rS) W0 (w.heap.size + 1) (D.zR) k0
 have z9 := below_setRow z0 (Nat.le_succ _) (rS.v (D.zR))
 exact bodyPost_ret (v := .tuple #[.agg (rS.v (D.zR)), .int .i64 5]) (by rw [results_cell_tmp rfl]; simp [asAddr, Result.andThen, lvr_of hset]) rfl ⟨by rfl, z9⟩

set_option maxHeartbeats 4000000 in
theorem rof_ok4 (x : D.Rk) (hk : x.k = 4) (hp : 0 ≤ x.p) (hp' : x.p ≤ 3) (ha : 0 ≤ x.a) (ha' : x.a < 4) (w : World) : Calls Tryz.prog 84 #[.agg (rS.v x)] w fun e w' => e = .returned (.tuple #[.agg (rS.v (x.noN.noT)), .int .i64 0]) ∧ Below w.heap.size w w' := by
 obtain ⟨W0, hW0⟩ : ∃ W, (w.alloc (.cells (rS.v x) 63)).alloc (.cells zr25 63) = W := ⟨_, rfl⟩
 have B0 : Blk W0 w.heap.size 63 (rS.v x) := by rw [← hW0]; exact (Blk.new w _ _).alloc _
 have k0 : Shp.tn 25 W0 (w.heap.size + 1) = true := by rw [← hW0]; exact Shp.tn_new _ _ _ _ _ (by simp) rfl
 have z0 : Below w.heap.size w W0 := by rw [← hW0]; exact (below_alloc_ _ _).alloc (by simp) _
 unfold zr25 at hW0
 obtain ⟨c0, c1, c2, c3, c4⟩ := rf0 (Shp.rd_blk (S := rS) B0)
 rw [hk] at c0
 have CU := Lib.hid (fun w => (show Calls Tryz.prog 119 #[.int .i64 4] w fun e w' => e = .returned (.tuple #[.int .i64 4, .bool false, .bool false]) ∧ w = w' from uses_any 4 w))
 obtain ⟨ta, tb, tc, th, T⟩ := tt_any x.t
 have CT := Lib.hid T.call
 clear T
 go_enter Tryz.func84, Tryz.ntmps84
 go_wp2_with fail
 try rw [hW0]
 clear hW0
 go_wp2_with (first
  | (go_at_call 119; (with_reducible refine (CU.out _).mono ?_); rintro e w1 ⟨rfl, rfl⟩)
  | (go_at_call 102; (with_reducible refine (CT.out _).mono ?_); rintro e w3 ⟨rfl, b3⟩; have B3 := B0.on b3; have k3 := Shp.tn_on k0 b3; have z3 := below_up z0 z0.size b3; obtain ⟨d0, d1, d2, d3, d4⟩ := rf0 (Shp.rd_blk (S := rS) B3); rw [hk] at d0; have b4 := below_alloc_ w3 (.cells #[.string ta, .string tb, .string tc] 204); have B4 := B3.on b4; have k4 := Shp.tn_on k3 b4; have z4 := below_up z3 z3.size b4; have q4 := B4.lt; have Z4 := Blk.new w3 204 #[.string ta, .string tb, .string tc]; have i4 := (Z4.c 0); simp at i4; obtain ⟨m6, B6⟩ := rk_n B4; have k6 := (Shp.tn_to (n := 25) (heap_setRow (w3.alloc (.cells #[.string ta, .string tb, .string tc] 204)) w.heap.size (w.heap.size + 1) (rS.v x.noN) (by omega))).trans k4; have z6 := below_setRow z4 (Nat.le_refl _) (rS.v x.noN); obtain ⟨m7, B7⟩ := rk_t B6; have k7 := (Shp.tn_to (n := 25) (heap_setRow ((w3.alloc (.cells #[.string ta, .string tb, .string tc] 204)).setRow w.heap.size (rS.v x.noN)) w.heap.size (w.heap.size + 1) (rS.v x.noN.noT) (by omega))).trans k6; have z7 := below_setRow z6 (Nat.le_refl _) (rS.v x.noN.noT); have r8 := Shp.rd_blk (S := rS) B7))
 have hset := Shp.rd_set (S := rS) (((w3.alloc (.cells #[.string ta, .string tb, .string tc] 204)).setRow w.heap.size (rS.v x.noN)).setRow w.heap.size (rS.v x.noN.noT)) (w.heap.size + 1) (x.noN.noT) k7
 have z9 := below_setRow z7 (Nat.le_succ _) (rS.v (x.noN.noT))
 exact bodyPost_ret (v := .tuple #[.agg (rS.v (x.noN.noT)), .int .i64 0]) (by rw [results_cell_tmp rfl]; simp [asAddr, Result.andThen, lvr_of hset]) rfl ⟨by rfl, z9⟩

end Go.Proofs.YtjlaffgbmcpldaaGreatDoor
set_option linter.unusedVariables false
set_option linter.unusedSimpArgs false
set_option maxRecDepth 100000
namespace Go.Proofs.YtjlaffgbmcpldaaGreatDoor
open Go.RowKit
attribute [local go_sem ↓] Go.wp_at_zero Go.wp_at_succ ld_k lv_k st_k eq_k ne_k bd_k ld_b lv_b st_b eq_b ne_b bd_25 ld_r lv_r st_rk eq_rk ne_rk bd_r ld_p lv_p st_px bd_p Nm.ld_a Nm.ld_n Nm.st_a Nm.st_n Nm.eq_a Nm.eq_n Nm.ne_a Nm.ne_n Nm.lv_a Nm.lv_n ld_a ld_n st_a st_n eq_a eq_n ne_a ne_n lv_a lv_n
attribute [local go_sem] run_ldk run_lvk run_stk run_eqk run_nek run_bdk_z run_ldb run_lvb run_stb run_eqb run_neb run_ldr run_lvr run_strk run_eqrk run_nerk run_bdr_z run_ldp run_lvp run_stpx Nm.run_ld_a Nm.run_ld_n Nm.run_st_n Nm.run_eq_a Nm.run_eq_n Nm.run_ne_a Nm.run_ne_n Nm.run_lv_a Nm.run_lv_n Nm.rd_new Nm.rd_old Nm.rd_drew Nm.rd_drewN run_ld_a run_ld_n run_sw_a run_sw_n run_eq_a run_eq_n run_ne_a run_ne_n run_lv_a run_lv_n st_z ne_z eq_z rd_new rd_old rd_drew rd_drewN Shp.rd_new Shp.rd_old Shp.rd_drew Shp.rd_drewN Shp.rd_set Shp.tn_new Shp.tn_old Shp.tn_drew Shp.tn_drewN tn_new tn_old tn_drew tn_drewN rd_set setRow_alloc run_stn3 run_stt15

set_option maxHeartbeats 4000000 in
theorem rof_plo5 (x : D.Rk) (hk : x.k = 5) (hp : x.p < 0) (w : World) : Calls Tryz.prog 84 #[.agg (rS.v x)] w fun e w' => e = .returned (.tuple #[.agg (rS.v (D.zR)), .int .i64 5]) ∧ Below w.heap.size w w' := by
 obtain ⟨W0, hW0⟩ : ∃ W, (w.alloc (.cells (rS.v x) 63)).alloc (.cells zr25 63) = W := ⟨_, rfl⟩
 have B0 : Blk W0 w.heap.size 63 (rS.v x) := by rw [← hW0]; exact (Blk.new w _ _).alloc _
 have k0 : Shp.tn 25 W0 (w.heap.size + 1) = true := by rw [← hW0]; exact Shp.tn_new _ _ _ _ _ (by simp) rfl
 have z0 : Below w.heap.size w W0 := by rw [← hW0]; exact (below_alloc_ _ _).alloc (by simp) _
 unfold zr25 at hW0
 obtain ⟨c0, c1, c2, c3, c4⟩ := rf0 (Shp.rd_blk (S := rS) B0)
 rw [hk] at c0
 have CU := Lib.hid (fun w => (show Calls Tryz.prog 119 #[.int .i64 5] w fun e w' => e = .returned (.tuple #[.int .i64 4, .bool true, .bool false]) ∧ w = w' from uses_any 5 w))
 skip
 go_enter Tryz.func84, Tryz.ntmps84
 go_wp2_with fail
 try rw [hW0]
 clear hW0
 go_wp2_with (first
  | (go_at_call 119; (with_reducible refine (CU.out _).mono ?_); rintro e w1 ⟨rfl, rfl⟩))
 have hset := Shp.rd_set (S := rS) W0 (w.heap.size + 1) (D.zR) k0
 have z9 := below_setRow z0 (Nat.le_succ _) (rS.v (D.zR))
 exact bodyPost_ret (v := .tuple #[.agg (rS.v (D.zR)), .int .i64 5]) (by rw [results_cell_tmp rfl]; simp [asAddr, Result.andThen, lvr_of hset]) rfl ⟨by rfl, z9⟩

set_option maxHeartbeats 4000000 in
theorem rof_alo5 (x : D.Rk) (hk : x.k = 5) (hp : 0 ≤ x.p) (hp' : x.p ≤ 3) (ha : x.a < 0) (w : World) : Calls Tryz.prog 84 #[.agg (rS.v x)] w fun e w' => e = .returned (.tuple #[.agg (rS.v (D.zR)), .int .i64 5]) ∧ Below w.heap.size w w' := by
 obtain ⟨W0, hW0⟩ : ∃ W, (w.alloc (.cells (rS.v x) 63)).alloc (.cells zr25 63) = W := ⟨_, rfl⟩
 have B0 : Blk W0 w.heap.size 63 (rS.v x) := by rw [← hW0]; exact (Blk.new w _ _).alloc _
 have k0 : Shp.tn 25 W0 (w.heap.size + 1) = true := by rw [← hW0]; exact Shp.tn_new _ _ _ _ _ (by simp) rfl
 have z0 : Below w.heap.size w W0 := by rw [← hW0]; exact (below_alloc_ _ _).alloc (by simp) _
 unfold zr25 at hW0
 obtain ⟨c0, c1, c2, c3, c4⟩ := rf0 (Shp.rd_blk (S := rS) B0)
 rw [hk] at c0
 have CU := Lib.hid (fun w => (show Calls Tryz.prog 119 #[.int .i64 5] w fun e w' => e = .returned (.tuple #[.int .i64 4, .bool true, .bool false]) ∧ w = w' from uses_any 5 w))
 skip
 go_enter Tryz.func84, Tryz.ntmps84
 go_wp2_with fail
 try rw [hW0]
 clear hW0
 go_wp2_with (first
  | (go_at_call 119; (with_reducible refine (CU.out _).mono ?_); rintro e w1 ⟨rfl, rfl⟩))
 have hset := Shp.rd_set (S := rS) W0 (w.heap.size + 1) (D.zR) k0
 have z9 := below_setRow z0 (Nat.le_succ _) (rS.v (D.zR))
 exact bodyPost_ret (v := .tuple #[.agg (rS.v (D.zR)), .int .i64 5]) (by rw [results_cell_tmp rfl]; simp [asAddr, Result.andThen, lvr_of hset]) rfl ⟨by rfl, z9⟩

set_option maxHeartbeats 4000000 in
theorem rof_phi5 (x : D.Rk) (hk : x.k = 5) (hp : 0 ≤ x.p) (hp' : 3 < x.p) (w : World) : Calls Tryz.prog 84 #[.agg (rS.v x)] w fun e w' => e = .returned (.tuple #[.agg (rS.v (D.zR)), .int .i64 5]) ∧ Below w.heap.size w w' := by
 obtain ⟨W0, hW0⟩ : ∃ W, (w.alloc (.cells (rS.v x) 63)).alloc (.cells zr25 63) = W := ⟨_, rfl⟩
 have B0 : Blk W0 w.heap.size 63 (rS.v x) := by rw [← hW0]; exact (Blk.new w _ _).alloc _
 have k0 : Shp.tn 25 W0 (w.heap.size + 1) = true := by rw [← hW0]; exact Shp.tn_new _ _ _ _ _ (by simp) rfl
 have z0 : Below w.heap.size w W0 := by rw [← hW0]; exact (below_alloc_ _ _).alloc (by simp) _
 unfold zr25 at hW0
 obtain ⟨c0, c1, c2, c3, c4⟩ := rf0 (Shp.rd_blk (S := rS) B0)
 rw [hk] at c0
 have CU := Lib.hid (fun w => (show Calls Tryz.prog 119 #[.int .i64 5] w fun e w' => e = .returned (.tuple #[.int .i64 4, .bool true, .bool false]) ∧ w = w' from uses_any 5 w))
 skip
 go_enter Tryz.func84, Tryz.ntmps84
 go_wp2_with fail
 try rw [hW0]
 clear hW0
 go_wp2_with (first
  | (go_at_call 119; (with_reducible refine (CU.out _).mono ?_); rintro e w1 ⟨rfl, rfl⟩))
 have hset := Shp.rd_set (S := rS) W0 (w.heap.size + 1) (D.zR) k0
 have z9 := below_setRow z0 (Nat.le_succ _) (rS.v (D.zR))
 exact bodyPost_ret (v := .tuple #[.agg (rS.v (D.zR)), .int .i64 5]) (by rw [results_cell_tmp rfl]; simp [asAddr, Result.andThen, lvr_of hset]) rfl ⟨by rfl, z9⟩

set_option maxHeartbeats 4000000 in
theorem rof_ahi5 (x : D.Rk) (hk : x.k = 5) (hp : 0 ≤ x.p) (hp' : x.p ≤ 3) (ha : 0 ≤ x.a) (ha' : 4 ≤ x.a) (w : World) : Calls Tryz.prog 84 #[.agg (rS.v x)] w fun e w' => e = .returned (.tuple #[.agg (rS.v (D.zR)), .int .i64 5]) ∧ Below w.heap.size w w' := by
 obtain ⟨W0, hW0⟩ : ∃ W, (w.alloc (.cells (rS.v x) 63)).alloc (.cells zr25 63) = W := ⟨_, rfl⟩
 have B0 : Blk W0 w.heap.size 63 (rS.v x) := by rw [← hW0]; exact (Blk.new w _ _).alloc _
 have k0 : Shp.tn 25 W0 (w.heap.size + 1) = true := by rw [← hW0]; exact Shp.tn_new _ _ _ _ _ (by simp) rfl
 have z0 : Below w.heap.size w W0 := by rw [← hW0]; exact (below_alloc_ _ _).alloc (by simp) _
 unfold zr25 at hW0
 obtain ⟨c0, c1, c2, c3, c4⟩ := rf0 (Shp.rd_blk (S := rS) B0)
 rw [hk] at c0
 have CU := Lib.hid (fun w => (show Calls Tryz.prog 119 #[.int .i64 5] w fun e w' => e = .returned (.tuple #[.int .i64 4, .bool true, .bool false]) ∧ w = w' from uses_any 5 w))
 skip
 go_enter Tryz.func84, Tryz.ntmps84
 go_wp2_with fail
 try rw [hW0]
 clear hW0
 go_wp2_with (first
  | (go_at_call 119; (with_reducible refine (CU.out _).mono ?_); rintro e w1 ⟨rfl, rfl⟩))
 have hset := Shp.rd_set (S := rS) W0 (w.heap.size + 1) (D.zR) k0
 have z9 := below_setRow z0 (Nat.le_succ _) (rS.v (D.zR))
 exact bodyPost_ret (v := .tuple #[.agg (rS.v (D.zR)), .int .i64 5]) (by rw [results_cell_tmp rfl]; simp [asAddr, Result.andThen, lvr_of hset]) rfl ⟨by rfl, z9⟩

set_option maxHeartbeats 4000000 in
theorem rof_n5 (x : D.Rk) (hk : x.k = 5) (hp : 0 ≤ x.p) (hp' : x.p ≤ 3) (ha : 0 ≤ x.a) (ha' : x.a < 4) (hn : Nm.D.right x.n = false) (w : World) : Calls Tryz.prog 84 #[.agg (rS.v x)] w fun e w' => e = .returned (.tuple #[.agg (rS.v (D.zR)), .int .i64 15]) ∧ Below w.heap.size w w' := by
 obtain ⟨W0, hW0⟩ : ∃ W, (w.alloc (.cells (rS.v x) 63)).alloc (.cells zr25 63) = W := ⟨_, rfl⟩
 have B0 : Blk W0 w.heap.size 63 (rS.v x) := by rw [← hW0]; exact (Blk.new w _ _).alloc _
 have k0 : Shp.tn 25 W0 (w.heap.size + 1) = true := by rw [← hW0]; exact Shp.tn_new _ _ _ _ _ (by simp) rfl
 have z0 : Below w.heap.size w W0 := by rw [← hW0]; exact (below_alloc_ _ _).alloc (by simp) _
 unfold zr25 at hW0
 obtain ⟨c0, c1, c2, c3, c4⟩ := rf0 (Shp.rd_blk (S := rS) B0)
 rw [hk] at c0
 have CU := Lib.hid (fun w => (show Calls Tryz.prog 119 #[.int .i64 5] w fun e w' => e = .returned (.tuple #[.int .i64 4, .bool true, .bool false]) ∧ w = w' from uses_any 5 w))
 have CN := Lib.hid (fun w => Nm.ref_text x.n w)
 have hts := ts_empty hn
 obtain ⟨ν, hν⟩ : ∃ ν, Nm.ts x.n = ν := ⟨_, rfl⟩
 rw [hν] at CN hts
 clear hν
 clear hn
 go_enter Tryz.func84, Tryz.ntmps84
 go_wp2_with fail
 try rw [hW0]
 clear hW0
 go_wp2_with (first
  | (go_at_call 119; (with_reducible refine (CU.out _).mono ?_); rintro e w1 ⟨rfl, rfl⟩)
  | (go_at_call 120; (with_reducible refine (CN.out _).mono ?_); rintro e w2 ⟨rfl, b2⟩; have B2 := B0.on b2; have k2 := Shp.tn_on k0 b2; have z2 := below_up z0 z0.size b2; obtain ⟨d0, d1, d2, d3, d4⟩ := rf0 (Shp.rd_blk (S := rS) B2); rw [hk] at d0))
 have hset := Shp.rd_set (S := rS) w2 (w.heap.size + 1) (D.zR) k2
 have z9 := below_setRow z2 (Nat.le_succ _) (rS.v (D.zR))
 exact bodyPost_ret (v := .tuple #[.agg (rS.v (D.zR)), .int .i64 15]) (by rw [results_cell_tmp rfl]; simp [asAddr, Result.andThen, lvr_of hset]) rfl ⟨by rfl, z9⟩

set_option maxHeartbeats 4000000 in
theorem rof_ok5 (x : D.Rk) (hk : x.k = 5) (hp : 0 ≤ x.p) (hp' : x.p ≤ 3) (ha : 0 ≤ x.a) (ha' : x.a < 4) (hn : Nm.D.right x.n = true) (w : World) : Calls Tryz.prog 84 #[.agg (rS.v x)] w fun e w' => e = .returned (.tuple #[.agg (rS.v (x.noT)), .int .i64 0]) ∧ Below w.heap.size w w' := by
 obtain ⟨W0, hW0⟩ : ∃ W, (w.alloc (.cells (rS.v x) 63)).alloc (.cells zr25 63) = W := ⟨_, rfl⟩
 have B0 : Blk W0 w.heap.size 63 (rS.v x) := by rw [← hW0]; exact (Blk.new w _ _).alloc _
 have k0 : Shp.tn 25 W0 (w.heap.size + 1) = true := by rw [← hW0]; exact Shp.tn_new _ _ _ _ _ (by simp) rfl
 have z0 : Below w.heap.size w W0 := by rw [← hW0]; exact (below_alloc_ _ _).alloc (by simp) _
 unfold zr25 at hW0
 obtain ⟨c0, c1, c2, c3, c4⟩ := rf0 (Shp.rd_blk (S := rS) B0)
 rw [hk] at c0
 have CU := Lib.hid (fun w => (show Calls Tryz.prog 119 #[.int .i64 5] w fun e w' => e = .returned (.tuple #[.int .i64 4, .bool true, .bool false]) ∧ w = w' from uses_any 5 w))
 have CN := Lib.hid (fun w => Nm.ref_text x.n w)
 have hts := ts_some hn
 obtain ⟨ν, hν⟩ : ∃ ν, Nm.ts x.n = ν := ⟨_, rfl⟩
 rw [hν] at CN hts
 clear hν
 obtain ⟨ta, tb, tc, th, T⟩ := tt_any x.t
 have CT := Lib.hid T.call
 clear hn T
 go_enter Tryz.func84, Tryz.ntmps84
 go_wp2_with fail
 try rw [hW0]
 clear hW0
 go_wp2_with (first
  | (go_at_call 119; (with_reducible refine (CU.out _).mono ?_); rintro e w1 ⟨rfl, rfl⟩)
  | (go_at_call 120; (with_reducible refine (CN.out _).mono ?_); rintro e w2 ⟨rfl, b2⟩; have B2 := B0.on b2; have k2 := Shp.tn_on k0 b2; have z2 := below_up z0 z0.size b2; obtain ⟨d0, d1, d2, d3, d4⟩ := rf0 (Shp.rd_blk (S := rS) B2); rw [hk] at d0)
  | (go_at_call 102; (with_reducible refine (CT.out _).mono ?_); rintro e w3 ⟨rfl, b3⟩; have B3 := B2.on b3; have k3 := Shp.tn_on k2 b3; have z3 := below_up z2 z2.size b3; obtain ⟨d0, d1, d2, d3, d4⟩ := rf0 (Shp.rd_blk (S := rS) B3); rw [hk] at d0; have b4 := below_alloc_ w3 (.cells #[.string ta, .string tb, .string tc] 204); have B4 := B3.on b4; have k4 := Shp.tn_on k3 b4; have z4 := below_up z3 z3.size b4; have q4 := B4.lt; have Z4 := Blk.new w3 204 #[.string ta, .string tb, .string tc]; have i4 := (Z4.c 0); simp at i4; obtain ⟨m7, B7⟩ := rk_t B4; have k7 := (Shp.tn_to (n := 25) (heap_setRow (w3.alloc (.cells #[.string ta, .string tb, .string tc] 204)) w.heap.size (w.heap.size + 1) (rS.v x.noT) (by omega))).trans k4; have z7 := below_setRow z4 (Nat.le_refl _) (rS.v x.noT); have r8 := Shp.rd_blk (S := rS) B7))
 have hset := Shp.rd_set (S := rS) ((w3.alloc (.cells #[.string ta, .string tb, .string tc] 204)).setRow w.heap.size (rS.v x.noT)) (w.heap.size + 1) (x.noT) k7
 have z9 := below_setRow z7 (Nat.le_succ _) (rS.v (x.noT))
 exact bodyPost_ret (v := .tuple #[.agg (rS.v (x.noT)), .int .i64 0]) (by rw [results_cell_tmp rfl]; simp [asAddr, Result.andThen, lvr_of hset]) rfl ⟨by rfl, z9⟩

end Go.Proofs.YtjlaffgbmcpldaaGreatDoor
