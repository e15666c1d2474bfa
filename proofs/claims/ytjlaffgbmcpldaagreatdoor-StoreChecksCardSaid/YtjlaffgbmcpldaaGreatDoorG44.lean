/-
  
-/
import Derived.Test.YtjlaffgbmcpldaaGreatDoorG35
import Derived.Test.YtjlaffgbmcpldaaGreatDoorG33
import Derived.Test.YtjlaffgbmcpldaaGreatDoorG34
import Derived.Test.YtjlaffgbmcpldaaGreatDoorG42
import Derived.Test.YtjlaffgbmcpldaaGreatDoorG43
set_option linter.unusedVariables false
set_option linter.unusedSimpArgs false
set_option maxRecDepth 100000
namespace Go.Proofs.YtjlaffgbmcpldaaGreatDoor
open Go.RowKit
attribute [local go_sem ↓] Go.wp_at_zero Go.wp_at_succ ld_k lv_k st_k eq_k ne_k bd_k ld_b lv_b st_b eq_b ne_b bd_25 ld_r lv_r st_rk eq_rk ne_rk bd_r ld_p lv_p st_px bd_p Nm.ld_a Nm.ld_n Nm.st_a Nm.st_n Nm.eq_a Nm.eq_n Nm.ne_a Nm.ne_n Nm.lv_a Nm.lv_n ld_a ld_n st_a st_n eq_a eq_n ne_a ne_n lv_a lv_n
attribute [local go_sem] run_ldk run_lvk run_stk run_eqk run_nek run_bdk_z run_ldb run_lvb run_stb run_eqb run_neb run_ldr run_lvr run_strk run_eqrk run_nerk run_bdr_z run_ldp run_lvp run_stpx Nm.run_ld_a Nm.run_ld_n Nm.run_st_n Nm.run_eq_a Nm.run_eq_n Nm.run_ne_a Nm.run_ne_n Nm.run_lv_a Nm.run_lv_n Nm.rd_new Nm.rd_old Nm.rd_drew Nm.rd_drewN run_ld_a run_ld_n run_sw_a run_sw_n run_eq_a run_eq_n run_ne_a run_ne_n run_lv_a run_lv_n st_z ne_z eq_z rd_new rd_old rd_drew rd_drewN Shp.rd_new Shp.rd_old Shp.rd_drew Shp.rd_drewN Shp.rd_set Shp.tn_new Shp.tn_old Shp.tn_drew Shp.tn_drewN tn_new tn_old tn_drew tn_drewN rd_set setRow_alloc run_stn3 run_stt15

set_option maxHeartbeats 4000000 in
theorem rof_plo6 (x : D.Rk) (hk : x.k = 6) (hp : x.p < 0) (w : World) : Calls Tryz.prog 84 #[.agg (rS.v x)] w fun e w' => e = .returned (.tuple #[.agg (rS.v (D.zR)), .int .i64 5]) ∧ Below w.heap.size w w' := by
 obtain ⟨W0, hW0⟩ : ∃ W, (w.alloc (.cells (rS.v x) 63)).alloc (.cells zr25 63) = W := ⟨_, rfl⟩
 have B0 : Blk W0 w.heap.size 63 (rS.v x) := by rw [← hW0]; exact (Blk.new w _ _).alloc _
 have k0 : Shp.tn 25 W0 (w.heap.size + 1) = true := by rw [← hW0]; exact Shp.tn_new _ _ _ _ _ (by simp) rfl
 have z0 : Below w.heap.size w W0 := by rw [← hW0]; exact (below_alloc_ _ _).alloc (by simp) _
 unfold zr25 at hW0
 obtain ⟨c0, c1, c2, c3, c4⟩ := rf0 (Shp.rd_blk (S := rS) B0)
 rw [hk] at c0
 have CU := Lib.hid (fun w => (show Calls Tryz.prog 119 #[.int .i64 6] w fun e w' => e = .returned (.tuple #[.int .i64 4, .bool true, .bool true]) ∧ w = w' from uses_any 6 w))
 skip
 go_enter Tryz.func84, Tryz.ntmps84
 go_wp2_with fail
 try rw [hW0]
 clear hW0
 go_wp2_with (first
  | (go_at_call 119; (with_reducible refine (CU.out _).mono ?_); rintro e w1 ⟨rfl, rfl⟩))
 have hset := Shp.rd_set (S := rS) W0 (w.heap.size + 1) (D.zR) k0
 have z9 := below_setRow z0 (Nat.le_succ _) (rS.v (D.zR))
 exact bodyPost_ret (v := .tuple #[.agg (rS.v (D.zR)), .int .i64 5]) (by rw [results_cell_tmp rfl]; simp [asAddr, Result.andThen, lvr_of hset]) rfl ⟨by rfl, z9⟩

set_option maxHeartbeats 4000000 in
theorem rof_alo6 (x : D.Rk) (hk : x.k = 6) (hp : 0 ≤ x.p) (hp' : x.p ≤ 3) (ha : x.a < 0) (w : World) : Calls Tryz.prog 84 #[.agg (rS.v x)] w fun e w' => e = .returned (.tuple #[.agg (rS.v (D.zR)), .int .i64 5]) ∧ Below w.heap.size w w' := by
 obtain ⟨W0, hW0⟩ : ∃ W, (w.alloc (.cells (rS.v x) 63)).alloc (.cells zr25 63) = W := ⟨_, rfl⟩
 have B0 : Blk W0 w.heap.size 63 (rS.v x) := by rw [← hW0]; exact (Blk.new w _ _).alloc _
 have k0 : Shp.tn 25 W0 (w.heap.size + 1) = true := by rw [← hW0]; exact Shp.tn_new _ _ _ _ _ (by simp) rfl
 have z0 : Below w.heap.size w W0 := by rw [← hW0]; exact (below_alloc_ _ _).alloc (by simp) _
 unfold zr25 at hW0
 obtain ⟨c0, c1, c2, c3, c4⟩ := rf0 (Shp.rd_blk (S := rS) B0)
 rw [hk] at c0
 have CU := Lib.hid (fun w => (show Calls Tryz.prog 119 #[.int .i64 6] w fun e w' => e = .returned (.tuple #[.int .i64 4, .bool true, .bool true]) ∧ w = w' from uses_any 6 w))
 skip
 go_enter Tryz.func84, Tryz.ntmps84
 go_wp2_with fail
 try rw [hW0]
 clear hW0
 go_wp2_with (first
  | (go_at_call 119; (with_reducible refine (CU.out _).mono ?_); rintro e w1 ⟨rfl, rfl⟩))
 have hset := Shp.rd_set (S := rS) W0 (w.heap.size + 1) (D.zR) k0
 have z9 := below_setRow z0 (Nat.le_succ _) (rS.v (D.zR))
 exact bodyPost_ret (v := .tuple #[.agg (rS.v (D.zR)), .int .i64 5]) (by rw [results_cell_tmp rfl]; simp [asAddr, Result.andThen, lvr_of hset]) rfl ⟨by rfl, z9⟩

set_option maxHeartbeats 4000000 in
theorem rof_phi6 (x : D.Rk) (hk : x.k = 6) (hp : 0 ≤ x.p) (hp' : 3 < x.p) (w : World) : Calls Tryz.prog 84 #[.agg (rS.v x)] w fun e w' => e = .returned (.tuple #[.agg (rS.v (D.zR)), .int .i64 5]) ∧ Below w.heap.size w w' := by
 obtain ⟨W0, hW0⟩ : ∃ W, (w.alloc (.cells (rS.v x) 63)).alloc (.cells zr25 63) = W := ⟨_, rfl⟩
 have B0 : Blk W0 w.heap.size 63 (rS.v x) := by rw [← hW0]; exact (Blk.new w _ _).alloc _
 have k0 : Shp.tn 25 W0 (w.heap.size + 1) = true := by rw [← hW0]; exact Shp.tn_new _ _ _ _ _ (by simp) rfl
 have z0 : Below w.heap.size w W0 := by rw [← hW0]; exact (below_alloc_ _ _).alloc (by simp) _
 unfold zr25 at hW0
 obtain ⟨c0, c1, c2, c3, c4⟩ := rf0 (Shp.rd_blk (S := rS) B0)
 rw [hk] at c0
 have CU := Lib.hid (fun w => (show Calls Tryz.prog 119 #[.int .i64 6] w fun e w' => e = .returned (.tuple #[.int .i64 4, .bool true, .bool true]) ∧ w = w' from uses_any 6 w))
 skip
 go_enter Tryz.func84, Tryz.ntmps84
 go_wp2_with fail
 try rw [hW0]
 clear hW0
 go_wp2_with (first
  | (go_at_call 119; (with_reducible refine (CU.out _).mono ?_); rintro e w1 ⟨rfl, rfl⟩))
 have hset := Shp.rd_set (S := rS) W0 (w.heap.size + 1) (D.zR) k0
 have z9 := below_setRow z0 (Nat.le_succ _) (rS.v (D.zR))
 exact bodyPost_ret (v := .tuple #[.agg (rS.v (D.zR)), .int .i64 5]) (by rw [results_cell_tmp rfl]; simp [asAddr, Result.andThen, lvr_of hset]) rfl ⟨by rfl, z9⟩

set_option maxHeartbeats 4000000 in
theorem rof_ahi6 (x : D.Rk) (hk : x.k = 6) (hp : 0 ≤ x.p) (hp' : x.p ≤ 3) (ha : 0 ≤ x.a) (ha' : 4 ≤ x.a) (w : World) : Calls Tryz.prog 84 #[.agg (rS.v x)] w fun e w' => e = .returned (.tuple #[.agg (rS.v (D.zR)), .int .i64 5]) ∧ Below w.heap.size w w' := by
 obtain ⟨W0, hW0⟩ : ∃ W, (w.alloc (.cells (rS.v x) 63)).alloc (.cells zr25 63) = W := ⟨_, rfl⟩
 have B0 : Blk W0 w.heap.size 63 (rS.v x) := by rw [← hW0]; exact (Blk.new w _ _).alloc _
 have k0 : Shp.tn 25 W0 (w.heap.size + 1) = true := by rw [← hW0]; exact Shp.tn_new _ _ _ _ _ (by simp) rfl
 have z0 : Below w.heap.size w W0 := by rw [← hW0]; exact (below_alloc_ _ _).alloc (by simp) _
 unfold zr25 at hW0
 obtain ⟨c0, c1, c2, c3, c4⟩ := rf0 (Shp.rd_blk (S := rS) B0)
 rw [hk] at c0
 have CU := Lib.hid (fun w => (show Calls Tryz.prog 119 #[.int .i64 6] w fun e w' => e = .returned (.tuple #[.int .i64 4, .bool true, .bool true]) ∧ w = w' from uses_any 6 w))
 skip
 go_enter Tryz.func84, Tryz.ntmps84
 go_wp2_with fail
 try rw [hW0]
 clear hW0
 go_wp2_with (first
  | (go_at_call 119; (with_reducible refine (CU.out _).mono ?_); rintro e w1 ⟨rfl, rfl⟩))
 have hset := Shp.rd_set (S := rS) W0 (w.heap.size + 1) (D.zR) k0
 have z9 := below_setRow z0 (Nat.le_succ _) (rS.v (D.zR))
 exact bodyPost_ret (v := .tuple #[.agg (rS.v (D.zR)), .int .i64 5]) (by rw [results_cell_tmp rfl]; simp [asAddr, Result.andThen, lvr_of hset]) rfl ⟨by rfl, z9⟩

set_option maxHeartbeats 4000000 in
theorem rof_n6 (x : D.Rk) (hk : x.k = 6) (hp : 0 ≤ x.p) (hp' : x.p ≤ 3) (ha : 0 ≤ x.a) (ha' : x.a < 4) (hn : Nm.D.right x.n = false) (w : World) : Calls Tryz.prog 84 #[.agg (rS.v x)] w fun e w' => e = .returned (.tuple #[.agg (rS.v (D.zR)), .int .i64 15]) ∧ Below w.heap.size w w' := by
 obtain ⟨W0, hW0⟩ : ∃ W, (w.alloc (.cells (rS.v x) 63)).alloc (.cells zr25 63) = W := ⟨_, rfl⟩
 have B0 : Blk W0 w.heap.size 63 (rS.v x) := by rw [← hW0]; exact (Blk.new w _ _).alloc _
 have k0 : Shp.tn 25 W0 (w.heap.size + 1) = true := by rw [← hW0]; exact Shp.tn_new _ _ _ _ _ (by simp) rfl
 have z0 : Below w.heap.size w W0 := by rw [← hW0]; exact (below_alloc_ _ _).alloc (by simp) _
 unfold zr25 at hW0
 obtain ⟨c0, c1, c2, c3, c4⟩ := rf0 (Shp.rd_blk (S := rS) B0)
 rw [hk] at c0
 have CU := Lib.hid (fun w => (show Calls Tryz.prog 119 #[.int .i64 6] w fun e w' => e = .returned (.tuple #[.int .i64 4, .bool true, .bool true]) ∧ w = w' from uses_any 6 w))
 have CN := Lib.hid (fun w => Nm.ref_text x.n w)
 have hts := ts_empty hn
 obtain ⟨ν, hν⟩ : ∃ ν, Nm.ts x.n = ν := ⟨_, rfl⟩
 rw [hν] at CN hts
 clear hν
 clear hn
 go_enter Tryz.func84, Tryz.ntmps84
 go_wp2_with fail
 try rw [hW0]
 clear hW0
 go_wp2_with (first
  | (go_at_call 119; (with_reducible refine (CU.out _).mono ?_); rintro e w1 ⟨rfl, rfl⟩)
  | (go_at_call 120; (with_reducible refine (CN.out _).mono ?_); rintro e w2 ⟨rfl, b2⟩; have B2 := B0.on b2; have k2 := Shp.tn_on k0 b2; have z2 := below_up z0 z0.size b2; obtain ⟨d0, d1, d2, d3, d4⟩ := rf0 (Shp.rd_blk (S := rS) B2); rw [hk] at d0))
 have hset := Shp.rd_set (S := rS) w2 (w.heap.size + 1) (D.zR) k2
 have z9 := below_setRow z2 (Nat.le_succ _) (rS.v (D.zR))
 exact bodyPost_ret (v := .tuple #[.agg (rS.v (D.zR)), .int .i64 15]) (by rw [results_cell_tmp rfl]; simp [asAddr, Result.andThen, lvr_of hset]) rfl ⟨by rfl, z9⟩

set_option maxHeartbeats 4000000 in
theorem rof_z6 (x : D.Rk) (hk : x.k = 6) (hp : 0 ≤ x.p) (hp' : x.p ≤ 3) (ha : 0 ≤ x.a) (ha' : x.a < 4) (hn : Nm.D.right x.n = true) (ht : x.t = D.zero) (w : World) : Calls Tryz.prog 84 #[.agg (rS.v x)] w fun e w' => e = .returned (.tuple #[.agg (rS.v (D.zR)), .int .i64 14]) ∧ Below w.heap.size w w' := by
 obtain ⟨W0, hW0⟩ : ∃ W, (w.alloc (.cells (rS.v x) 63)).alloc (.cells zr25 63) = W := ⟨_, rfl⟩
 have B0 : Blk W0 w.heap.size 63 (rS.v x) := by rw [← hW0]; exact (Blk.new w _ _).alloc _
 have k0 : Shp.tn 25 W0 (w.heap.size + 1) = true := by rw [← hW0]; exact Shp.tn_new _ _ _ _ _ (by simp) rfl
 have z0 : Below w.heap.size w W0 := by rw [← hW0]; exact (below_alloc_ _ _).alloc (by simp) _
 unfold zr25 at hW0
 obtain ⟨c0, c1, c2, c3, c4⟩ := rf0 (Shp.rd_blk (S := rS) B0)
 rw [hk] at c0
 have CU := Lib.hid (fun w => (show Calls Tryz.prog 119 #[.int .i64 6] w fun e w' => e = .returned (.tuple #[.int .i64 4, .bool true, .bool true]) ∧ w = w' from uses_any 6 w))
 have CN := Lib.hid (fun w => Nm.ref_text x.n w)
 have hts := ts_some hn
 obtain ⟨ν, hν⟩ : ∃ ν, Nm.ts x.n = ν := ⟨_, rfl⟩
 rw [hν] at CN hts
 clear hν
 obtain ⟨ta, tb, tc, th, T⟩ := tt_any x.t
 have hta : ta.toList.isEmpty = true := T.lang.2 (.inl ht)
 have CT := Lib.hid T.call
 cases th
 all_goals
  clear hn T ht
  go_enter Tryz.func84, Tryz.ntmps84
  go_wp2_with fail
  try rw [hW0]
  clear hW0
  go_wp2_with (first
   | (go_at_call 119; (with_reducible refine (CU.out _).mono ?_); rintro e w1 ⟨rfl, rfl⟩)
   | (go_at_call 120; (with_reducible refine (CN.out _).mono ?_); rintro e w2 ⟨rfl, b2⟩; have B2 := B0.on b2; have k2 := Shp.tn_on k0 b2; have z2 := below_up z0 z0.size b2; obtain ⟨d0, d1, d2, d3, d4⟩ := rf0 (Shp.rd_blk (S := rS) B2); rw [hk] at d0)
   | (go_at_call 102; (with_reducible refine (CT.out _).mono ?_); rintro e w3 ⟨rfl, b3⟩; have B3 := B2.on b3; have k3 := Shp.tn_on k2 b3; have z3 := below_up z2 z2.size b3; obtain ⟨d0, d1, d2, d3, d4⟩ := rf0 (Shp.rd_blk (S := rS) B3); rw [hk] at d0; have b4 := below_alloc_ w3 (.cells #[.string ta, .string tb, .string tc] 204); have B4 := B3.on b4; have k4 := Shp.tn_on k3 b4; have z4 := below_up z3 z3.size b4; have q4 := B4.lt; have Z4 := Blk.new w3 204 #[.string ta, .string tb, .string tc]; have i4 := (Z4.c 0); simp at i4))
  have hset := Shp.rd_set (S := rS) (w3.alloc (.cells #[.string ta, .string tb, .string tc] 204)) (w.heap.size + 1) (D.zR) k4
  have z9 := below_setRow z4 (Nat.le_succ _) (rS.v (D.zR))
  exact bodyPost_ret (v := .tuple #[.agg (rS.v (D.zR)), .int .i64 14]) (by rw [results_cell_tmp rfl]; simp [asAddr, Result.andThen, lvr_of hset]) rfl ⟨by rfl, z9⟩

set_option maxHeartbeats 4000000 in
theorem rof_w6 (x : D.Rk) (hk : x.k = 6) (hp : 0 ≤ x.p) (hp' : x.p ≤ 3) (ha : 0 ≤ x.a) (ha' : x.a < 4) (hn : Nm.D.right x.n = true) (hr : D.right x.t = false) (w : World) : Calls Tryz.prog 84 #[.agg (rS.v x)] w fun e w' => e = .returned (.tuple #[.agg (rS.v (D.zR)), .int .i64 14]) ∧ Below w.heap.size w w' := by
 obtain ⟨W0, hW0⟩ : ∃ W, (w.alloc (.cells (rS.v x) 63)).alloc (.cells zr25 63) = W := ⟨_, rfl⟩
 have B0 : Blk W0 w.heap.size 63 (rS.v x) := by rw [← hW0]; exact (Blk.new w _ _).alloc _
 have k0 : Shp.tn 25 W0 (w.heap.size + 1) = true := by rw [← hW0]; exact Shp.tn_new _ _ _ _ _ (by simp) rfl
 have z0 : Below w.heap.size w W0 := by rw [← hW0]; exact (below_alloc_ _ _).alloc (by simp) _
 unfold zr25 at hW0
 obtain ⟨c0, c1, c2, c3, c4⟩ := rf0 (Shp.rd_blk (S := rS) B0)
 rw [hk] at c0
 have CU := Lib.hid (fun w => (show Calls Tryz.prog 119 #[.int .i64 6] w fun e w' => e = .returned (.tuple #[.int .i64 4, .bool true, .bool true]) ∧ w = w' from uses_any 6 w))
 have CN := Lib.hid (fun w => Nm.ref_text x.n w)
 have hts := ts_some hn
 obtain ⟨ν, hν⟩ : ∃ ν, Nm.ts x.n = ν := ⟨_, rfl⟩
 rw [hν] at CN hts
 clear hν
 obtain ⟨ta, tb, tc, th, T⟩ := tt_any x.t
 have hth : th = false := T.is.trans hr
 subst hth
 have CT := Lib.hid T.call
 clear hn T hr
 go_enter Tryz.func84, Tryz.ntmps84
 go_wp2_with fail
 try rw [hW0]
 clear hW0
 go_wp2_with (first
  | (go_at_call 119; (with_reducible refine (CU.out _).mono ?_); rintro e w1 ⟨rfl, rfl⟩)
  | (go_at_call 120; (with_reducible refine (CN.out _).mono ?_); rintro e w2 ⟨rfl, b2⟩; have B2 := B0.on b2; have k2 := Shp.tn_on k0 b2; have z2 := below_up z0 z0.size b2; obtain ⟨d0, d1, d2, d3, d4⟩ := rf0 (Shp.rd_blk (S := rS) B2); rw [hk] at d0)
  | (go_at_call 102; (with_reducible refine (CT.out _).mono ?_); rintro e w3 ⟨rfl, b3⟩; have B3 := B2.on b3; have k3 := Shp.tn_on k2 b3; have z3 := below_up z2 z2.size b3; obtain ⟨d0, d1, d2, d3, d4⟩ := rf0 (Shp.rd_blk (S := rS) B3); rw [hk] at d0; have b4 := below_alloc_ w3 (.cells #[.string ta, .string tb, .string tc] 204); have B4 := B3.on b4; have k4 := Shp.tn_on k3 b4; have z4 := below_up z3 z3.size b4; have q4 := B4.lt; have Z4 := Blk.new w3 204 #[.string ta, .string tb, .string tc]; have i4 := (Z4.c 0); simp at i4))
 have hset := Shp.rd_set (S := rS) (w3.alloc (.cells #[.string ta, .string tb, .string tc] 204)) (w.heap.size + 1) (D.zR) k4
 have z9 := below_setRow z4 (Nat.le_succ _) (rS.v (D.zR))
 exact bodyPost_ret (v := .tuple #[.agg (rS.v (D.zR)), .int .i64 14]) (by rw [results_cell_tmp rfl]; simp [asAddr, Result.andThen, lvr_of hset]) rfl ⟨by rfl, z9⟩

set_option maxHeartbeats 4000000 in
theorem rof_ok6 (x : D.Rk) (hk : x.k = 6) (hp : 0 ≤ x.p) (hp' : x.p ≤ 3) (ha : 0 ≤ x.a) (ha' : x.a < 4) (hn : Nm.D.right x.n = true) (ht : x.t ≠ D.zero) (hr : D.right x.t = true) (w : World) : Calls Tryz.prog 84 #[.agg (rS.v x)] w fun e w' => e = .returned (.tuple #[.agg (rS.v x), .int .i64 0]) ∧ Below w.heap.size w w' := by
 obtain ⟨W0, hW0⟩ : ∃ W, (w.alloc (.cells (rS.v x) 63)).alloc (.cells zr25 63) = W := ⟨_, rfl⟩
 have B0 : Blk W0 w.heap.size 63 (rS.v x) := by rw [← hW0]; exact (Blk.new w _ _).alloc _
 have k0 : Shp.tn 25 W0 (w.heap.size + 1) = true := by rw [← hW0]; exact Shp.tn_new _ _ _ _ _ (by simp) rfl
 have z0 : Below w.heap.size w W0 := by rw [← hW0]; exact (below_alloc_ _ _).alloc (by simp) _
 unfold zr25 at hW0
 obtain ⟨c0, c1, c2, c3, c4⟩ := rf0 (Shp.rd_blk (S := rS) B0)
 rw [hk] at c0
 have CU := Lib.hid (fun w => (show Calls Tryz.prog 119 #[.int .i64 6] w fun e w' => e = .returned (.tuple #[.int .i64 4, .bool true, .bool true]) ∧ w = w' from uses_any 6 w))
 have CN := Lib.hid (fun w => Nm.ref_text x.n w)
 have hts := ts_some hn
 obtain ⟨ν, hν⟩ : ∃ ν, Nm.ts x.n = ν := ⟨_, rfl⟩
 rw [hν] at CN hts
 clear hν
 obtain ⟨ta, tb, tc, th, T⟩ := tt_any x.t
 have hth : th = true := T.is.trans hr
 have hta : ta.toList.isEmpty = false := by cases h : ta.toList.isEmpty with | false => rfl | true => exact absurd (T.lang.1 h) (by rintro (h | h); exact ht h; rw [hr] at h; cases h)
 subst hth
 have CT := Lib.hid T.call
 clear hn T ht hr
 go_enter Tryz.func84, Tryz.ntmps84
 go_wp2_with fail
 try rw [hW0]
 clear hW0
 go_wp2_with (first
  | (go_at_call 119; (with_reducible refine (CU.out _).mono ?_); rintro e w1 ⟨rfl, rfl⟩)
  | (go_at_call 120; (with_reducible refine (CN.out _).mono ?_); rintro e w2 ⟨rfl, b2⟩; have B2 := B0.on b2; have k2 := Shp.tn_on k0 b2; have z2 := below_up z0 z0.size b2; obtain ⟨d0, d1, d2, d3, d4⟩ := rf0 (Shp.rd_blk (S := rS) B2); rw [hk] at d0)
  | (go_at_call 102; (with_reducible refine (CT.out _).mono ?_); rintro e w3 ⟨rfl, b3⟩; have B3 := B2.on b3; have k3 := Shp.tn_on k2 b3; have z3 := below_up z2 z2.size b3; obtain ⟨d0, d1, d2, d3, d4⟩ := rf0 (Shp.rd_blk (S := rS) B3); rw [hk] at d0; have b4 := below_alloc_ w3 (.cells #[.string ta, .string tb, .string tc] 204); have B4 := B3.on b4; have k4 := Shp.tn_on k3 b4; have z4 := below_up z3 z3.size b4; have q4 := B4.lt; have Z4 := Blk.new w3 204 #[.string ta, .string tb, .string tc]; have i4 := (Z4.c 0); simp at i4; have r8 := Shp.rd_blk (S := rS) B4))
 have hset := Shp.rd_set (S := rS) (w3.alloc (.cells #[.string ta, .string tb, .string tc] 204)) (w.heap.size + 1) (x) k4
 have z9 := below_setRow z4 (Nat.le_succ _) (rS.v (x))
 exact bodyPost_ret (v := .tuple #[.agg (rS.v (x)), .int .i64 0]) (by rw [results_cell_tmp rfl]; simp [asAddr, Result.andThen, lvr_of hset]) rfl ⟨by rfl, z9⟩

end Go.Proofs.YtjlaffgbmcpldaaGreatDoor
set_option linter.unusedVariables false
set_option linter.unusedSimpArgs false
set_option maxRecDepth 100000
namespace Go.Proofs.YtjlaffgbmcpldaaGreatDoor
open Go.RowKit
attribute [local go_sem ↓] Go.wp_at_zero Go.wp_at_succ ld_k lv_k st_k eq_k ne_k bd_k ld_b lv_b st_b eq_b ne_b bd_25 ld_r lv_r st_rk eq_rk ne_rk bd_r ld_p lv_p st_px bd_p Nm.ld_a Nm.ld_n Nm.st_a Nm.st_n Nm.eq_a Nm.eq_n Nm.ne_a Nm.ne_n Nm.lv_a Nm.lv_n ld_a ld_n st_a st_n eq_a eq_n ne_a ne_n lv_a lv_n
attribute [local go_sem] run_ldk run_lvk run_stk run_eqk run_nek run_bdk_z run_ldb run_lvb run_stb run_eqb run_neb run_ldr run_lvr run_strk run_eqrk run_nerk run_bdr_z run_ldp run_lvp run_stpx Nm.run_ld_a Nm.run_ld_n Nm.run_st_n Nm.run_eq_a Nm.run_eq_n Nm.run_ne_a Nm.run_ne_n Nm.run_lv_a Nm.run_lv_n Nm.rd_new Nm.rd_old Nm.rd_drew Nm.rd_drewN run_ld_a run_ld_n run_sw_a run_sw_n run_eq_a run_eq_n run_ne_a run_ne_n run_lv_a run_lv_n st_z ne_z eq_z rd_new rd_old rd_drew rd_drewN Shp.rd_new Shp.rd_old Shp.rd_drew Shp.rd_drewN Shp.rd_set Shp.tn_new Shp.tn_old Shp.tn_drew Shp.tn_drewN tn_new tn_old tn_drew tn_drewN rd_set setRow_alloc run_stn3 run_stt15

namespace D
theorem rkof_k {x : Rk} (h : ¬ (1 ≤ x.k ∧ x.k ≤ 6)) : rkof x = (zR, 16) := by
 have e : rerr x = 16 := by unfold rerr err; rw [if_pos (by omega)]
 unfold rkof; rw [e, if_neg (by decide)]
theorem rkof_r {x : Rk} (hk : 1 ≤ x.k ∧ x.k ≤ 6) (h : (x.p < 0 ∨ 3 < x.p) ∨ (0 < ats x.k ∧ (x.a < 0 ∨ (ats x.k : Int) ≤ x.a))) : rkof x = (zR, 5) := by
 have e : rerr x = 5 := by unfold rerr err; rw [if_neg (by omega), if_pos h]
 unfold rkof; rw [e, if_neg (by decide)]
theorem rkof_n {x : Rk} (hk : 1 ≤ x.k ∧ x.k ≤ 6) (h : ¬ ((x.p < 0 ∨ 3 < x.p) ∨ (0 < ats x.k ∧ (x.a < 0 ∨ (ats x.k : Int) ≤ x.a)))) (hm : nmd x.k = true) (hn : Nm.D.right x.n = false) : rkof x = (zR, 15) := by
 have e : rerr x = 15 := by unfold rerr err; rw [if_neg (by omega), if_neg h, if_pos ⟨hm, hn⟩]
 unfold rkof; rw [e, if_neg (by decide)]
theorem rkof_t {x : Rk} (hk : 1 ≤ x.k ∧ x.k ≤ 6) (h : ¬ ((x.p < 0 ∨ 3 < x.p) ∨ (0 < ats x.k ∧ (x.a < 0 ∨ (ats x.k : Int) ≤ x.a)))) (hn : nmd x.k = true → Nm.D.right x.n = true) (hm : tgd x.k = true) (ht : x.t = zero ∨ right x.t = false) : rkof x = (zR, 14) := by
 have e : rerr x = 14 := by
  unfold rerr err
  rw [if_neg (by omega), if_neg h, if_neg, if_pos ⟨hm, ht⟩]
  rintro ⟨h, h'⟩; rw [hn h] at h'; cases h'
 unfold rkof; rw [e, if_neg (by decide)]
theorem rkof_ok {x y : Rk} (hk : 1 ≤ x.k ∧ x.k ≤ 6) (h : ¬ ((x.p < 0 ∨ 3 < x.p) ∨ (0 < ats x.k ∧ (x.a < 0 ∨ (ats x.k : Int) ≤ x.a)))) (hn : nmd x.k = true → Nm.D.right x.n = true) (ht : tgd x.k = true → x.t ≠ zero ∧ right x.t = true) (hy : mkR x = y) : rkof x = (y, 0) := by
 have e : rerr x = 0 := err_of hk (by omega) (fun h0 => by have := fun h1 => h (.inr ⟨h0, h1⟩); omega) hn ht
 unfold rkof; rw [e, if_pos rfl, hy]
end D

theorem rkof_any (x : D.Rk) (w : World) : Calls Tryz.prog 84 #[.agg (rS.v x)] w fun e w' => e = .returned (.tuple #[.agg (rS.v (D.rkof x).1), .int .i64 (D.rkof x).2]) ∧ Below w.heap.size w w' := by
 by_cases hk : 1 ≤ x.k ∧ x.k ≤ 6
 ·rcases (isk x.k).1 hk with h | h | h | h | h | h
  ·have ea : D.ats x.k = 0 := by rw [h]; rfl
   have en : D.nmd x.k = false := by rw [h]; rfl
   have et : D.tgd x.k = false := by rw [h]; rfl
   by_cases p1 : x.p < 0
   ·rw [D.rkof_r hk (.inl (.inl p1))]; exact rof_plo1 x h p1 w
   by_cases p2 : 3 < x.p
   ·rw [D.rkof_r hk (.inl (.inr p2))]; exact rof_phi1 x h (by omega) p2 w
   have hb : ¬ ((x.p < 0 ∨ 3 < x.p) ∨ (0 < D.ats x.k ∧ (x.a < 0 ∨ (D.ats x.k : Int) ≤ x.a))) := by omega
   rw [D.rkof_ok (y := x.noA.noN.noT) hk hb (fun h' => by rw [en] at h'; cases h') (fun h' => by rw [et] at h'; cases h') (D.Rk.eq rfl rfl (by show (if 0 < D.ats x.k then x.a else 0) = _; rw [ea]; rfl) (by show (if D.nmd x.k then x.n else Nm.D.zero) = _; rw [en]; rfl) (by show (if D.tgd x.k then x.t else D.zero) = _; rw [et]; rfl))]; exact rof_ok1 x h (by omega) (by omega) w
  ·have ea : D.ats x.k = 16 := by rw [h]; rfl
   have en : D.nmd x.k = false := by rw [h]; rfl
   have et : D.tgd x.k = false := by rw [h]; rfl
   by_cases p1 : x.p < 0
   ·rw [D.rkof_r hk (.inl (.inl p1))]; exact rof_plo2 x h p1 w
   by_cases p2 : 3 < x.p
   ·rw [D.rkof_r hk (.inl (.inr p2))]; exact rof_phi2 x h (by omega) p2 w
   by_cases a1 : x.a < 0
   ·rw [D.rkof_r hk (.inr ⟨by omega, .inl a1⟩)]; exact rof_alo2 x h (by omega) (by omega) a1 w
   by_cases a2 : 16 ≤ x.a
   ·rw [D.rkof_r hk (.inr ⟨by omega, .inr (by omega)⟩)]; exact rof_ahi2 x h (by omega) (by omega) (by omega) a2 w
   have hb : ¬ ((x.p < 0 ∨ 3 < x.p) ∨ (0 < D.ats x.k ∧ (x.a < 0 ∨ (D.ats x.k : Int) ≤ x.a))) := by omega
   rw [D.rkof_ok (y := x.noN.noT) hk hb (fun h' => by rw [en] at h'; cases h') (fun h' => by rw [et] at h'; cases h') (D.Rk.eq rfl rfl (by show (if 0 < D.ats x.k then x.a else 0) = _; rw [ea]; rfl) (by show (if D.nmd x.k then x.n else Nm.D.zero) = _; rw [en]; rfl) (by show (if D.tgd x.k then x.t else D.zero) = _; rw [et]; rfl))]; exact rof_ok2 x h (by omega) (by omega) (by omega) (by omega) w
  ·have ea : D.ats x.k = 0 := by rw [h]; rfl
   have en : D.nmd x.k = false := by rw [h]; rfl
   have et : D.tgd x.k = true := by rw [h]; rfl
   by_cases p1 : x.p < 0
   ·rw [D.rkof_r hk (.inl (.inl p1))]; exact rof_plo3 x h p1 w
   by_cases p2 : 3 < x.p
   ·rw [D.rkof_r hk (.inl (.inr p2))]; exact rof_phi3 x h (by omega) p2 w
   have hb : ¬ ((x.p < 0 ∨ 3 < x.p) ∨ (0 < D.ats x.k ∧ (x.a < 0 ∨ (D.ats x.k : Int) ≤ x.a))) := by omega
   by_cases hz : x.t = D.zero
   ·rw [D.rkof_t hk hb (fun h' => by rw [en] at h'; cases h') et (.inl hz)]; exact rof_z3 x h (by omega) (by omega) hz w
   cases hr : D.right x.t with
   | false => rw [D.rkof_t hk hb (fun h' => by rw [en] at h'; cases h') et (.inr hr)]; exact rof_w3 x h (by omega) (by omega) hr w
   | true => rw [D.rkof_ok (y := x.noA.noN) hk hb (fun h' => by rw [en] at h'; cases h') (fun _ => ⟨hz, hr⟩) (D.Rk.eq rfl rfl (by show (if 0 < D.ats x.k then x.a else 0) = _; rw [ea]; rfl) (by show (if D.nmd x.k then x.n else Nm.D.zero) = _; rw [en]; rfl) (by show (if D.tgd x.k then x.t else D.zero) = _; rw [et]; rfl))]; exact rof_ok3 x h (by omega) (by omega) hz hr w
  ·have ea : D.ats x.k = 4 := by rw [h]; rfl
   have en : D.nmd x.k = false := by rw [h]; rfl
   have et : D.tgd x.k = false := by rw [h]; rfl
   by_cases p1 : x.p < 0
   ·rw [D.rkof_r hk (.inl (.inl p1))]; exact rof_plo4 x h p1 w
   by_cases p2 : 3 < x.p
   ·rw [D.rkof_r hk (.inl (.inr p2))]; exact rof_phi4 x h (by omega) p2 w
   by_cases a1 : x.a < 0
   ·rw [D.rkof_r hk (.inr ⟨by omega, .inl a1⟩)]; exact rof_alo4 x h (by omega) (by omega) a1 w
   by_cases a2 : 4 ≤ x.a
   ·rw [D.rkof_r hk (.inr ⟨by omega, .inr (by omega)⟩)]; exact rof_ahi4 x h (by omega) (by omega) (by omega) a2 w
   have hb : ¬ ((x.p < 0 ∨ 3 < x.p) ∨ (0 < D.ats x.k ∧ (x.a < 0 ∨ (D.ats x.k : Int) ≤ x.a))) := by omega
   rw [D.rkof_ok (y := x.noN.noT) hk hb (fun h' => by rw [en] at h'; cases h') (fun h' => by rw [et] at h'; cases h') (D.Rk.eq rfl rfl (by show (if 0 < D.ats x.k then x.a else 0) = _; rw [ea]; rfl) (by show (if D.nmd x.k then x.n else Nm.D.zero) = _; rw [en]; rfl) (by show (if D.tgd x.k then x.t else D.zero) = _; rw [et]; rfl))]; exact rof_ok4 x h (by omega) (by omega) (by omega) (by omega) w
  ·have ea : D.ats x.k = 4 := by rw [h]; rfl
   have en : D.nmd x.k = true := by rw [h]; rfl
   have et : D.tgd x.k = false := by rw [h]; rfl
   by_cases p1 : x.p < 0
   ·rw [D.rkof_r hk (.inl (.inl p1))]; exact rof_plo5 x h p1 w
   by_cases p2 : 3 < x.p
   ·rw [D.rkof_r hk (.inl (.inr p2))]; exact rof_phi5 x h (by omega) p2 w
   by_cases a1 : x.a < 0
   ·rw [D.rkof_r hk (.inr ⟨by omega, .inl a1⟩)]; exact rof_alo5 x h (by omega) (by omega) a1 w
   by_cases a2 : 4 ≤ x.a
   ·rw [D.rkof_r hk (.inr ⟨by omega, .inr (by omega)⟩)]; exact rof_ahi5 x h (by omega) (by omega) (by omega) a2 w
   have hb : ¬ ((x.p < 0 ∨ 3 < x.p) ∨ (0 < D.ats x.k ∧ (x.a < 0 ∨ (D.ats x.k : Int) ≤ x.a))) := by omega
   cases hn : Nm.D.right x.n with
   | false => rw [D.rkof_n hk hb en hn]; exact rof_n5 x h (by omega) (by omega) (by omega) (by omega) hn w
   | true =>
    rw [D.rkof_ok (y := x.noT) hk hb (fun _ => hn) (fun h' => by rw [et] at h'; cases h') (D.Rk.eq rfl rfl (by show (if 0 < D.ats x.k then x.a else 0) = _; rw [ea]; rfl) (by show (if D.nmd x.k then x.n else Nm.D.zero) = _; rw [en]; rfl) (by show (if D.tgd x.k then x.t else D.zero) = _; rw [et]; rfl))]; exact rof_ok5 x h (by omega) (by omega) (by omega) (by omega) hn w
  ·have ea : D.ats x.k = 4 := by rw [h]; rfl
   have en : D.nmd x.k = true := by rw [h]; rfl
   have et : D.tgd x.k = true := by rw [h]; rfl
   by_cases p1 : x.p < 0
   ·rw [D.rkof_r hk (.inl (.inl p1))]; exact rof_plo6 x h p1 w
   by_cases p2 : 3 < x.p
   ·rw [D.rkof_r hk (.inl (.inr p2))]; exact rof_phi6 x h (by omega) p2 w
   by_cases a1 : x.a < 0
   ·rw [D.rkof_r hk (.inr ⟨by omega, .inl a1⟩)]; exact rof_alo6 x h (by omega) (by omega) a1 w
   by_cases a2 : 4 ≤ x.a
   ·rw [D.rkof_r hk (.inr ⟨by omega, .inr (by omega)⟩)]; exact rof_ahi6 x h (by omega) (by omega) (by omega) a2 w
   have hb : ¬ ((x.p < 0 ∨ 3 < x.p) ∨ (0 < D.ats x.k ∧ (x.a < 0 ∨ (D.ats x.k : Int) ≤ x.a))) := by omega
   cases hn : Nm.D.right x.n with
   | false => rw [D.rkof_n hk hb en hn]; exact rof_n6 x h (by omega) (by omega) (by omega) (by omega) hn w
   | true =>
    by_cases hz : x.t = D.zero
    ·rw [D.rkof_t hk hb (fun _ => hn) et (.inl hz)]; exact rof_z6 x h (by omega) (by omega) (by omega) (by omega) hn hz w
    cases hr : D.right x.t with
    | false => rw [D.rkof_t hk hb (fun _ => hn) et (.inr hr)]; exact rof_w6 x h (by omega) (by omega) (by omega) (by omega) hn hr w
    | true => rw [D.rkof_ok (y := x) hk hb (fun _ => hn) (fun _ => ⟨hz, hr⟩) (D.Rk.eq rfl rfl (by show (if 0 < D.ats x.k then x.a else 0) = _; rw [ea]; rfl) (by show (if D.nmd x.k then x.n else Nm.D.zero) = _; rw [en]; rfl) (by show (if D.tgd x.k then x.t else D.zero) = _; rw [et]; rfl))]; exact rof_ok6 x h (by omega) (by omega) (by omega) (by omega) hn hz hr w
 ·rw [D.rkof_k hk]
  by_cases h1 : x.k < 1
  ·exact rof_nlo x h1 w
  ·exact rof_nhi x (by omega) (by omega) w
end Go.Proofs.YtjlaffgbmcpldaaGreatDoor
set_option linter.unusedVariables false
set_option linter.unusedSimpArgs false
set_option maxRecDepth 100000
namespace Go.Proofs.YtjlaffgbmcpldaaGreatDoor
open Go.RowKit
theorem Nm.rd_extr (w : World) (p : On) (a : Addr) (h : a.block < w.heap.size) : Nm.rd (ext w p) a = Nm.rd w a := Nm.rd_to (ext_heap w p h)
theorem Shp.rd_extr {α : Type} {S : Shp α} (w : World) (p : On) (a : Addr) (h : a.block < w.heap.size) : S.rd (ext w p) a = S.rd w a := Shp.rd_to (ext_heap w p h)
attribute [local go_sem ↓] Go.wp_at_zero Go.wp_at_succ ld_k lv_k st_k eq_k ne_k bd_k ld_b lv_b st_b eq_b ne_b bd_25 ld_r lv_r st_rk eq_rk ne_rk bd_r ld_p lv_p st_px bd_p Nm.ld_a Nm.ld_n Nm.st_a Nm.st_n Nm.eq_a Nm.eq_n Nm.ne_a Nm.ne_n Nm.lv_a Nm.lv_n ld_a ld_n st_a st_n eq_a eq_n ne_a ne_n lv_a lv_n
attribute [local go_sem] run_ldk run_lvk run_stk run_eqk run_nek run_bdk_z run_ldb run_lvb run_stb run_eqb run_neb run_ldr run_lvr run_strk run_eqrk run_nerk run_bdr_z run_ldp run_lvp run_stpx Nm.run_ld_a Nm.run_ld_n Nm.run_st_n Nm.run_eq_a Nm.run_eq_n Nm.run_ne_a Nm.run_ne_n Nm.run_lv_a Nm.run_lv_n Nm.rd_new Nm.rd_old Nm.rd_drew Nm.rd_drewN run_ld_a run_ld_n run_sw_a run_sw_n run_eq_a run_eq_n run_ne_a run_ne_n run_lv_a run_lv_n st_z ne_z eq_z rd_new rd_old rd_drew rd_drewN Shp.rd_new Shp.rd_old Shp.rd_drew Shp.rd_drewN Shp.rd_set Shp.tn_new Shp.tn_old Shp.tn_drew Shp.tn_drewN tn_new tn_old tn_drew tn_drewN rd_set setRow_alloc run_stn3 run_stt15 cell_ext rd_ext Nm.rd_extr Shp.rd_extr

theorem D.rright_eq (x : D.Rk) : D.rright x = (decide ((D.rkof x).2 = 0) && rS.sm (D.rkof x).1 x) := by
 rw [rS_sm]
 unfold D.rright D.rkof
 by_cases h : D.rerr x = 0
 ·rw [if_pos h]; simp [h]
 ·rw [if_neg h]; simp [h]
set_option maxHeartbeats 2000000 in
theorem rright_any (x : D.Rk) (w : World) : Calls Tryz.prog 45 #[.agg (rS.v x)] w fun e w' => e = .returned (.bool (D.rright x)) ∧ Below w.heap.size w w' := by
 have f0 := Shp.rd_new (S := rS) w _ 63 x rfl
 have cO := rkof_any x
 have hr := D.rright_eq x
 obtain ⟨⟨y, e⟩, he⟩ : ∃ q, D.rkof x = q := ⟨_, rfl⟩
 rw [he] at cO hr
 simp only at cO hr
 have CO := Lib.hid cO
 clear cO he
 by_cases h : e = 0
 ·have HR := Lib.hid (show D.rright x = rS.sm y x by rw [hr]; simp [h])
  clear hr
  subst h
  go_enter Tryz.func45, Tryz.ntmps45
  go_wp2_with (go_at_call 84; (with_reducible refine (CO.out _).mono ?_); rintro e w1 ⟨rfl, b1⟩; have f1 := Shp.rd_on f0 b1; have s1 : w.heap.size < w1.heap.size := by have := b1.size; simp at this; omega)
  go_ret
  exact ⟨by rw [HR.out]; rfl, (below_up (below_alloc_ _ _) (by simp) b1).alloc (by omega) _⟩
 ·have HR := Lib.hid (show D.rright x = false by rw [hr]; simp [h])
  clear hr
  go_enter Tryz.func45, Tryz.ntmps45
  go_wp2_with (go_at_call 84; (with_reducible refine (CO.out _).mono ?_); rintro e w1 ⟨rfl, b1⟩; have f1 := Shp.rd_on f0 b1; have s1 : w.heap.size < w1.heap.size := by have := b1.size; simp at this; omega)
  go_ret
  exact ⟨by rw [HR.out]; rfl, (below_up (below_alloc_ _ _) (by simp) b1).alloc (by omega) _⟩
end Go.Proofs.YtjlaffgbmcpldaaGreatDoor
