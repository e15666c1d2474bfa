/-
  The document's Has, of keys.
-/
import Derived.Test.YtkhjnfplcaffnaaKlo
set_option linter.unusedVariables false
set_option linter.unusedSimpArgs false
set_option maxRecDepth 100000
namespace Go.Proofs.Ytkhjnfplcaffnaa
open Go.RowKit
attribute [local go_sem ↓] Go.wp_at_zero Go.wp_at_succ ld_k lv_k st_k eq_k ne_k bd_k ld_b lv_b st_b eq_b ne_b bd_25 ld_r lv_r st_rk eq_rk ne_rk bd_r ld_p lv_p st_px bd_p Nm.ld_a Nm.ld_n Nm.st_a Nm.st_n Nm.eq_a Nm.eq_n Nm.ne_a Nm.ne_n Nm.lv_a Nm.lv_n ld_a ld_n st_a st_n eq_a eq_n ne_a ne_n lv_a lv_n
attribute [local go_sem] run_ldk run_lvk run_stk run_eqk run_nek run_bdk_z run_ldb run_lvb run_stb run_eqb run_neb run_ldr run_lvr run_strk run_eqrk run_nerk run_bdr_z run_ldp run_lvp run_stpx Nm.run_ld_a Nm.run_ld_n Nm.run_st_n Nm.run_eq_a Nm.run_eq_n Nm.run_ne_a Nm.run_ne_n Nm.run_lv_a Nm.run_lv_n Nm.rd_new Nm.rd_old Nm.rd_drew Nm.rd_drewN run_ld_a run_ld_n run_sw_a run_sw_n run_eq_a run_eq_n run_ne_a run_ne_n run_lv_a run_lv_n st_z ne_z eq_z rd_new rd_old rd_drew rd_drewN Shp.rd_new Shp.rd_old Shp.rd_drew Shp.rd_drewN Shp.rd_set Shp.tn_new Shp.tn_old Shp.tn_drew Shp.tn_drewN tn_new tn_old tn_drew tn_drewN rd_set setRow_alloc run_stn3 run_stt15

set_option maxHeartbeats 2000000 in
theorem rhas_0_0 (p x : D.Ky) (w : World)  : Calls Try.prog 18 #[.agg (rS.v (D.toR p)), .int .i64 0, .agg (rS.v (D.toR x))] w fun e w' => e = .returned (.bool true) ∧ Below w.heap.size w w' := by
  obtain ⟨W0, hW0⟩ : ∃ W, (w.alloc (.cells (rS.v (D.toR p)) 40)).alloc (.cells (rS.v (D.toR x)) 40) = W := ⟨_, rfl⟩
  have z0 : Below w.heap.size w W0 := by rw [← hW0]; exact (below_alloc_ _ _).alloc (by simp) _
  have f0 : rS.rd W0 ⟨w.heap.size, 0, none⟩ = some (D.toR p) := by rw [← hW0]; exact Shp.rd_on (Shp.rd_new (S := rS) w _ _ _ rfl) (below_alloc_ _ _)
  have f1 : rS.rd W0 ⟨w.heap.size + 1, 0, none⟩ = some (D.toR x) := by rw [← hW0]; exact Shp.rd_new _ _ _ _ (by simp)
  obtain ⟨c0, c1, c2, c3, c4⟩ := rf0 f0
  obtain ⟨d0, d1, d2, d3, d4⟩ := rf0 f1
  rw [show (D.toR p).k = (p.k : Int) from rfl] at c0
  rw [show (D.toR p).p = (p.p : Int) from rfl] at c1
  rw [show (D.toR p).a = (p.a : Int) from rfl] at c2
  rw [show (D.toR p).n = p.n from rfl] at c3
  rw [show (D.toR p).t = p.t from rfl] at c4
  rw [show (D.toR x).k = (x.k : Int) from rfl] at d0
  rw [show (D.toR x).p = (x.p : Int) from rfl] at d1
  rw [show (D.toR x).a = (x.a : Int) from rfl] at d2
  rw [show (D.toR x).n = x.n from rfl] at d3
  rw [show (D.toR x).t = x.t from rfl] at d4
  go_enter Try.func18, Try.ntmps18
  go_wp2
  go_ret
  exact ⟨by rfl, z0⟩

set_option maxHeartbeats 2000000 in
theorem rhas_1_0 (p x : D.Ky) (w : World) (h0 : p.k ≠ x.k) : Calls Try.prog 18 #[.agg (rS.v (D.toR p)), .int .i64 1, .agg (rS.v (D.toR x))] w fun e w' => e = .returned (.bool false) ∧ Below w.heap.size w w' := by
  obtain ⟨W0, hW0⟩ : ∃ W, (w.alloc (.cells (rS.v (D.toR p)) 40)).alloc (.cells (rS.v (D.toR x)) 40) = W := ⟨_, rfl⟩
  have z0 : Below w.heap.size w W0 := by rw [← hW0]; exact (below_alloc_ _ _).alloc (by simp) _
  have f0 : rS.rd W0 ⟨w.heap.size, 0, none⟩ = some (D.toR p) := by rw [← hW0]; exact Shp.rd_on (Shp.rd_new (S := rS) w _ _ _ rfl) (below_alloc_ _ _)
  have f1 : rS.rd W0 ⟨w.heap.size + 1, 0, none⟩ = some (D.toR x) := by rw [← hW0]; exact Shp.rd_new _ _ _ _ (by simp)
  obtain ⟨c0, c1, c2, c3, c4⟩ := rf0 f0
  obtain ⟨d0, d1, d2, d3, d4⟩ := rf0 f1
  rw [show (D.toR p).k = (p.k : Int) from rfl] at c0
  rw [show (D.toR p).p = (p.p : Int) from rfl] at c1
  rw [show (D.toR p).a = (p.a : Int) from rfl] at c2
  rw [show (D.toR p).n = p.n from rfl] at c3
  rw [show (D.toR p).t = p.t from rfl] at c4
  rw [show (D.toR x).k = (x.k : Int) from rfl] at d0
  rw [show (D.toR x).p = (x.p : Int) from rfl] at d1
  rw [show (D.toR x).a = (x.a : Int) from rfl] at d2
  rw [show (D.toR x).n = x.n from rfl] at d3
  rw [show (D.toR x).t = x.t from rfl] at d4
  have g0 : ¬ ((p.k : Int) = (x.k : Int)) := by omega
  clear h0
  go_enter Try.func18, Try.ntmps18
  go_wp2
  go_ret
  exact ⟨by rfl, z0⟩

set_option maxHeartbeats 2000000 in
theorem rhas_1_1 (p x : D.Ky) (w : World) (h0 : p.k = x.k) : Calls Try.prog 18 #[.agg (rS.v (D.toR p)), .int .i64 1, .agg (rS.v (D.toR x))] w fun e w' => e = .returned (.bool true) ∧ Below w.heap.size w w' := by
  obtain ⟨W0, hW0⟩ : ∃ W, (w.alloc (.cells (rS.v (D.toR p)) 40)).alloc (.cells (rS.v (D.toR x)) 40) = W := ⟨_, rfl⟩
  have z0 : Below w.heap.size w W0 := by rw [← hW0]; exact (below_alloc_ _ _).alloc (by simp) _
  have f0 : rS.rd W0 ⟨w.heap.size, 0, none⟩ = some (D.toR p) := by rw [← hW0]; exact Shp.rd_on (Shp.rd_new (S := rS) w _ _ _ rfl) (below_alloc_ _ _)
  have f1 : rS.rd W0 ⟨w.heap.size + 1, 0, none⟩ = some (D.toR x) := by rw [← hW0]; exact Shp.rd_new _ _ _ _ (by simp)
  obtain ⟨c0, c1, c2, c3, c4⟩ := rf0 f0
  obtain ⟨d0, d1, d2, d3, d4⟩ := rf0 f1
  rw [show (D.toR p).k = (p.k : Int) from rfl] at c0
  rw [show (D.toR p).p = (p.p : Int) from rfl] at c1
  rw [show (D.toR p).a = (p.a : Int) from rfl] at c2
  rw [show (D.toR p).n = p.n from rfl] at c3
  rw [show (D.toR p).t = p.t from rfl] at c4
  rw [show (D.toR x).k = (x.k : Int) from rfl] at d0
  rw [show (D.toR x).p = (x.p : Int) from rfl] at d1
  rw [show (D.toR x).a = (x.a : Int) from rfl] at d2
  rw [show (D.toR x).n = x.n from rfl] at d3
  rw [show (D.toR x).t = x.t from rfl] at d4
  rw [h0] at c0
  clear h0
  go_enter Try.func18, Try.ntmps18
  go_wp2
  go_ret
  exact ⟨by rfl, z0⟩

set_option maxHeartbeats 2000000 in
theorem rhas_2_0 (p x : D.Ky) (w : World) (h0 : p.k ≠ x.k) : Calls Try.prog 18 #[.agg (rS.v (D.toR p)), .int .i64 2, .agg (rS.v (D.toR x))] w fun e w' => e = .returned (.bool false) ∧ Below w.heap.size w w' := by
  obtain ⟨W0, hW0⟩ : ∃ W, (w.alloc (.cells (rS.v (D.toR p)) 40)).alloc (.cells (rS.v (D.toR x)) 40) = W := ⟨_, rfl⟩
  have z0 : Below w.heap.size w W0 := by rw [← hW0]; exact (below_alloc_ _ _).alloc (by simp) _
  have f0 : rS.rd W0 ⟨w.heap.size, 0, none⟩ = some (D.toR p) := by rw [← hW0]; exact Shp.rd_on (Shp.rd_new (S := rS) w _ _ _ rfl) (below_alloc_ _ _)
  have f1 : rS.rd W0 ⟨w.heap.size + 1, 0, none⟩ = some (D.toR x) := by rw [← hW0]; exact Shp.rd_new _ _ _ _ (by simp)
  obtain ⟨c0, c1, c2, c3, c4⟩ := rf0 f0
  obtain ⟨d0, d1, d2, d3, d4⟩ := rf0 f1
  rw [show (D.toR p).k = (p.k : Int) from rfl] at c0
  rw [show (D.toR p).p = (p.p : Int) from rfl] at c1
  rw [show (D.toR p).a = (p.a : Int) from rfl] at c2
  rw [show (D.toR p).n = p.n from rfl] at c3
  rw [show (D.toR p).t = p.t from rfl] at c4
  rw [show (D.toR x).k = (x.k : Int) from rfl] at d0
  rw [show (D.toR x).p = (x.p : Int) from rfl] at d1
  rw [show (D.toR x).a = (x.a : Int) from rfl] at d2
  rw [show (D.toR x).n = x.n from rfl] at d3
  rw [show (D.toR x).t = x.t from rfl] at d4
  have g0 : ¬ ((p.k : Int) = (x.k : Int)) := by omega
  clear h0
  go_enter Try.func18, Try.ntmps18
  go_wp2
  go_ret
  exact ⟨by rfl, z0⟩

set_option maxHeartbeats 2000000 in
theorem rhas_2_1 (p x : D.Ky) (w : World) (h0 : p.k = x.k) (h1 : p.p ≠ x.p) : Calls Try.prog 18 #[.agg (rS.v (D.toR p)), .int .i64 2, .agg (rS.v (D.toR x))] w fun e w' => e = .returned (.bool false) ∧ Below w.heap.size w w' := by
  obtain ⟨W0, hW0⟩ : ∃ W, (w.alloc (.cells (rS.v (D.toR p)) 40)).alloc (.cells (rS.v (D.toR x)) 40) = W := ⟨_, rfl⟩
  have z0 : Below w.heap.size w W0 := by rw [← hW0]; exact (below_alloc_ _ _).alloc (by simp) _
  have f0 : rS.rd W0 ⟨w.heap.size, 0, none⟩ = some (D.toR p) := by rw [← hW0]; exact Shp.rd_on (Shp.rd_new (S := rS) w _ _ _ rfl) (below_alloc_ _ _)
  have f1 : rS.rd W0 ⟨w.heap.size + 1, 0, none⟩ = some (D.toR x) := by rw [← hW0]; exact Shp.rd_new _ _ _ _ (by simp)
  obtain ⟨c0, c1, c2, c3, c4⟩ := rf0 f0
  obtain ⟨d0, d1, d2, d3, d4⟩ := rf0 f1
  rw [show (D.toR p).k = (p.k : Int) from rfl] at c0
  rw [show (D.toR p).p = (p.p : Int) from rfl] at c1
  rw [show (D.toR p).a = (p.a : Int) from rfl] at c2
  rw [show (D.toR p).n = p.n from rfl] at c3
  rw [show (D.toR p).t = p.t from rfl] at c4
  rw [show (D.toR x).k = (x.k : Int) from rfl] at d0
  rw [show (D.toR x).p = (x.p : Int) from rfl] at d1
  rw [show (D.toR x).a = (x.a : Int) from rfl] at d2
  rw [show (D.toR x).n = x.n from rfl] at d3
  rw [show (D.toR x).t = x.t from rfl] at d4
  rw [h0] at c0
  clear h0
  have g1 : ¬ ((p.p : Int) = (x.p : Int)) := by omega
  clear h1
  go_enter Try.func18, Try.ntmps18
  go_wp2
  go_ret
  exact ⟨by rfl, z0⟩

set_option maxHeartbeats 2000000 in
theorem rhas_2_2 (p x : D.Ky) (w : World) (h0 : p.k = x.k) (h1 : p.p = x.p) : Calls Try.prog 18 #[.agg (rS.v (D.toR p)), .int .i64 2, .agg (rS.v (D.toR x))] w fun e w' => e = .returned (.bool true) ∧ Below w.heap.size w w' := by
  obtain ⟨W0, hW0⟩ : ∃ W, (w.alloc (.cells (rS.v (D.toR p)) 40)).alloc (.cells (rS.v (D.toR x)) 40) = W := ⟨_, rfl⟩
  have z0 : Below w.heap.size w W0 := by rw [← hW0]; exact (below_alloc_ _ _).alloc (by simp) _
  have f0 : rS.rd W0 ⟨w.heap.size, 0, none⟩ = some (D.toR p) := by rw [← hW0]; exact Shp.rd_on (Shp.rd_new (S := rS) w _ _ _ rfl) (below_alloc_ _ _)
  have f1 : rS.rd W0 ⟨w.heap.size + 1, 0, none⟩ = some (D.toR x) := by rw [← hW0]; exact Shp.rd_new _ _ _ _ (by simp)
  obtain ⟨c0, c1, c2, c3, c4⟩ := rf0 f0
  obtain ⟨d0, d1, d2, d3, d4⟩ := rf0 f1
  rw [show (D.toR p).k = (p.k : Int) from rfl] at c0
  rw [show (D.toR p).p = (p.p : Int) from rfl] at c1
  rw [show (D.toR p).a = (p.a : Int) from rfl] at c2
  rw [show (D.toR p).n = p.n from rfl] at c3
  rw [show (D.toR p).t = p.t from rfl] at c4
  rw [show (D.toR x).k = (x.k : Int) from rfl] at d0
  rw [show (D.toR x).p = (x.p : Int) from rfl] at d1
  rw [show (D.toR x).a = (x.a : Int) from rfl] at d2
  rw [show (D.toR x).n = x.n from rfl] at d3
  rw [show (D.toR x).t = x.t from rfl] at d4
  rw [h0] at c0
  clear h0
  rw [h1] at c1
  clear h1
  go_enter Try.func18, Try.ntmps18
  go_wp2
  go_ret
  exact ⟨by rfl, z0⟩

set_option maxHeartbeats 2000000 in
theorem rhas_3_0 (p x : D.Ky) (w : World) (h0 : p.k ≠ x.k) : Calls Try.prog 18 #[.agg (rS.v (D.toR p)), .int .i64 3, .agg (rS.v (D.toR x))] w fun e w' => e = .returned (.bool false) ∧ Below w.heap.size w w' := by
  obtain ⟨W0, hW0⟩ : ∃ W, (w.alloc (.cells (rS.v (D.toR p)) 40)).alloc (.cells (rS.v (D.toR x)) 40) = W := ⟨_, rfl⟩
  have z0 : Below w.heap.size w W0 := by rw [← hW0]; exact (below_alloc_ _ _).alloc (by simp) _
  have f0 : rS.rd W0 ⟨w.heap.size, 0, none⟩ = some (D.toR p) := by rw [← hW0]; exact Shp.rd_on (Shp.rd_new (S := rS) w _ _ _ rfl) (below_alloc_ _ _)
  have f1 : rS.rd W0 ⟨w.heap.size + 1, 0, none⟩ = some (D.toR x) := by rw [← hW0]; exact Shp.rd_new _ _ _ _ (by simp)
  obtain ⟨c0, c1, c2, c3, c4⟩ := rf0 f0
  obtain ⟨d0, d1, d2, d3, d4⟩ := rf0 f1
  rw [show (D.toR p).k = (p.k : Int) from rfl] at c0
  rw [show (D.toR p).p = (p.p : Int) from rfl] at c1
  rw [show (D.toR p).a = (p.a : Int) from rfl] at c2
  rw [show (D.toR p).n = p.n from rfl] at c3
  rw [show (D.toR p).t = p.t from rfl] at c4
  rw [show (D.toR x).k = (x.k : Int) from rfl] at d0
  rw [show (D.toR x).p = (x.p : Int) from rfl] at d1
  rw [show (D.toR x).a = (x.a : Int) from rfl] at d2
  rw [show (D.toR x).n = x.n from rfl] at d3
  rw [show (D.toR x).t = x.t from rfl] at d4
  have g0 : ¬ ((p.k : Int) = (x.k : Int)) := by omega
  clear h0
  go_enter Try.func18, Try.ntmps18
  go_wp2
  go_ret
  exact ⟨by rfl, z0⟩

set_option maxHeartbeats 2000000 in
theorem rhas_3_1 (p x : D.Ky) (w : World) (h0 : p.k = x.k) (h1 : p.p ≠ x.p) : Calls Try.prog 18 #[.agg (rS.v (D.toR p)), .int .i64 3, .agg (rS.v (D.toR x))] w fun e w' => e = .returned (.bool false) ∧ Below w.heap.size w w' := by
  obtain ⟨W0, hW0⟩ : ∃ W, (w.alloc (.cells (rS.v (D.toR p)) 40)).alloc (.cells (rS.v (D.toR x)) 40) = W := ⟨_, rfl⟩
  have z0 : Below w.heap.size w W0 := by rw [← hW0]; exact (below_alloc_ _ _).alloc (by simp) _
  have f0 : rS.rd W0 ⟨w.heap.size, 0, none⟩ = some (D.toR p) := by rw [← hW0]; exact Shp.rd_on (Shp.rd_new (S := rS) w _ _ _ rfl) (below_alloc_ _ _)
  have f1 : rS.rd W0 ⟨w.heap.size + 1, 0, none⟩ = some (D.toR x) := by rw [← hW0]; exact Shp.rd_new _ _ _ _ (by simp)
  obtain ⟨c0, c1, c2, c3, c4⟩ := rf0 f0
  obtain ⟨d0, d1, d2, d3, d4⟩ := rf0 f1
  rw [show (D.toR p).k = (p.k : Int) from rfl] at c0
  rw [show (D.toR p).p = (p.p : Int) from rfl] at c1
  rw [show (D.toR p).a = (p.a : Int) from rfl] at c2
  rw [show (D.toR p).n = p.n from rfl] at c3
  rw [show (D.toR p).t = p.t from rfl] at c4
  rw [show (D.toR x).k = (x.k : Int) from rfl] at d0
  rw [show (D.toR x).p = (x.p : Int) from rfl] at d1
  rw [show (D.toR x).a = (x.a : Int) from rfl] at d2
  rw [show (D.toR x).n = x.n from rfl] at d3
  rw [show (D.toR x).t = x.t from rfl] at d4
  rw [h0] at c0
  clear h0
  have g1 : ¬ ((p.p : Int) = (x.p : Int)) := by omega
  clear h1
  go_enter Try.func18, Try.ntmps18
  go_wp2
  go_ret
  exact ⟨by rfl, z0⟩

set_option maxHeartbeats 2000000 in
theorem rhas_3_2 (p x : D.Ky) (w : World) (h0 : p.k = x.k) (h1 : p.p = x.p) (h2 : p.a ≠ x.a) : Calls Try.prog 18 #[.agg (rS.v (D.toR p)), .int .i64 3, .agg (rS.v (D.toR x))] w fun e w' => e = .returned (.bool false) ∧ Below w.heap.size w w' := by
  obtain ⟨W0, hW0⟩ : ∃ W, (w.alloc (.cells (rS.v (D.toR p)) 40)).alloc (.cells (rS.v (D.toR x)) 40) = W := ⟨_, rfl⟩
  have z0 : Below w.heap.size w W0 := by rw [← hW0]; exact (below_alloc_ _ _).alloc (by simp) _
  have f0 : rS.rd W0 ⟨w.heap.size, 0, none⟩ = some (D.toR p) := by rw [← hW0]; exact Shp.rd_on (Shp.rd_new (S := rS) w _ _ _ rfl) (below_alloc_ _ _)
  have f1 : rS.rd W0 ⟨w.heap.size + 1, 0, none⟩ = some (D.toR x) := by rw [← hW0]; exact Shp.rd_new _ _ _ _ (by simp)
  obtain ⟨c0, c1, c2, c3, c4⟩ := rf0 f0
  obtain ⟨d0, d1, d2, d3, d4⟩ := rf0 f1
  rw [show (D.toR p).k = (p.k : Int) from rfl] at c0
  rw [show (D.toR p).p = (p.p : Int) from rfl] at c1
  rw [show (D.toR p).a = (p.a : Int) from rfl] at c2
  rw [show (D.toR p).n = p.n from rfl] at c3
  rw [show (D.toR p).t = p.t from rfl] at c4
  rw [show (D.toR x).k = (x.k : Int) from rfl] at d0
  rw [show (D.toR x).p = (x.p : Int) from rfl] at d1
  rw [show (D.toR x).a = (x.a : Int) from rfl] at d2
  rw [show (D.toR x).n = x.n from rfl] at d3
  rw [show (D.toR x).t = x.t from rfl] at d4
  rw [h0] at c0
  clear h0
  rw [h1] at c1
  clear h1
  have g2 : ¬ ((p.a : Int) = (x.a : Int)) := by omega
  clear h2
  go_enter Try.func18, Try.ntmps18
  go_wp2
  go_ret
  exact ⟨by rfl, z0⟩

set_option maxHeartbeats 2000000 in
theorem rhas_3_3 (p x : D.Ky) (w : World) (h0 : p.k = x.k) (h1 : p.p = x.p) (h2 : p.a = x.a) : Calls Try.prog 18 #[.agg (rS.v (D.toR p)), .int .i64 3, .agg (rS.v (D.toR x))] w fun e w' => e = .returned (.bool true) ∧ Below w.heap.size w w' := by
  obtain ⟨W0, hW0⟩ : ∃ W, (w.alloc (.cells (rS.v (D.toR p)) 40)).alloc (.cells (rS.v (D.toR x)) 40) = W := ⟨_, rfl⟩
  have z0 : Below w.heap.size w W0 := by rw [← hW0]; exact (below_alloc_ _ _).alloc (by simp) _
  have f0 : rS.rd W0 ⟨w.heap.size, 0, none⟩ = some (D.toR p) := by rw [← hW0]; exact Shp.rd_on (Shp.rd_new (S := rS) w _ _ _ rfl) (below_alloc_ _ _)
  have f1 : rS.rd W0 ⟨w.heap.size + 1, 0, none⟩ = some (D.toR x) := by rw [← hW0]; exact Shp.rd_new _ _ _ _ (by simp)
  obtain ⟨c0, c1, c2, c3, c4⟩ := rf0 f0
  obtain ⟨d0, d1, d2, d3, d4⟩ := rf0 f1
  rw [show (D.toR p).k = (p.k : Int) from rfl] at c0
  rw [show (D.toR p).p = (p.p : Int) from rfl] at c1
  rw [show (D.toR p).a = (p.a : Int) from rfl] at c2
  rw [show (D.toR p).n = p.n from rfl] at c3
  rw [show (D.toR p).t = p.t from rfl] at c4
  rw [show (D.toR x).k = (x.k : Int) from rfl] at d0
  rw [show (D.toR x).p = (x.p : Int) from rfl] at d1
  rw [show (D.toR x).a = (x.a : Int) from rfl] at d2
  rw [show (D.toR x).n = x.n from rfl] at d3
  rw [show (D.toR x).t = x.t from rfl] at d4
  rw [h0] at c0
  clear h0
  rw [h1] at c1
  clear h1
  rw [h2] at c2
  clear h2
  go_enter Try.func18, Try.ntmps18
  go_wp2
  go_ret
  exact ⟨by rfl, z0⟩

set_option maxHeartbeats 2000000 in
theorem rhas_4_0 (p x : D.Ky) (w : World) (h0 : p.k ≠ x.k) : Calls Try.prog 18 #[.agg (rS.v (D.toR p)), .int .i64 4, .agg (rS.v (D.toR x))] w fun e w' => e = .returned (.bool false) ∧ Below w.heap.size w w' := by
  obtain ⟨W0, hW0⟩ : ∃ W, (w.alloc (.cells (rS.v (D.toR p)) 40)).alloc (.cells (rS.v (D.toR x)) 40) = W := ⟨_, rfl⟩
  have z0 : Below w.heap.size w W0 := by rw [← hW0]; exact (below_alloc_ _ _).alloc (by simp) _
  have f0 : rS.rd W0 ⟨w.heap.size, 0, none⟩ = some (D.toR p) := by rw [← hW0]; exact Shp.rd_on (Shp.rd_new (S := rS) w _ _ _ rfl) (below_alloc_ _ _)
  have f1 : rS.rd W0 ⟨w.heap.size + 1, 0, none⟩ = some (D.toR x) := by rw [← hW0]; exact Shp.rd_new _ _ _ _ (by simp)
  obtain ⟨c0, c1, c2, c3, c4⟩ := rf0 f0
  obtain ⟨d0, d1, d2, d3, d4⟩ := rf0 f1
  rw [show (D.toR p).k = (p.k : Int) from rfl] at c0
  rw [show (D.toR p).p = (p.p : Int) from rfl] at c1
  rw [show (D.toR p).a = (p.a : Int) from rfl] at c2
  rw [show (D.toR p).n = p.n from rfl] at c3
  rw [show (D.toR p).t = p.t from rfl] at c4
  rw [show (D.toR x).k = (x.k : Int) from rfl] at d0
  rw [show (D.toR x).p = (x.p : Int) from rfl] at d1
  rw [show (D.toR x).a = (x.a : Int) from rfl] at d2
  rw [show (D.toR x).n = x.n from rfl] at d3
  rw [show (D.toR x).t = x.t from rfl] at d4
  have g0 : ¬ ((p.k : Int) = (x.k : Int)) := by omega
  clear h0
  go_enter Try.func18, Try.ntmps18
  go_wp2
  go_ret
  exact ⟨by rfl, z0⟩

set_option maxHeartbeats 2000000 in
theorem rhas_4_1 (p x : D.Ky) (w : World) (h0 : p.k = x.k) (h1 : p.p ≠ x.p) : Calls Try.prog 18 #[.agg (rS.v (D.toR p)), .int .i64 4, .agg (rS.v (D.toR x))] w fun e w' => e = .returned (.bool false) ∧ Below w.heap.size w w' := by
  obtain ⟨W0, hW0⟩ : ∃ W, (w.alloc (.cells (rS.v (D.toR p)) 40)).alloc (.cells (rS.v (D.toR x)) 40) = W := ⟨_, rfl⟩
  have z0 : Below w.heap.size w W0 := by rw [← hW0]; exact (below_alloc_ _ _).alloc (by simp) _
  have f0 : rS.rd W0 ⟨w.heap.size, 0, none⟩ = some (D.toR p) := by rw [← hW0]; exact Shp.rd_on (Shp.rd_new (S := rS) w _ _ _ rfl) (below_alloc_ _ _)
  have f1 : rS.rd W0 ⟨w.heap.size + 1, 0, none⟩ = some (D.toR x) := by rw [← hW0]; exact Shp.rd_new _ _ _ _ (by simp)
  obtain ⟨c0, c1, c2, c3, c4⟩ := rf0 f0
  obtain ⟨d0, d1, d2, d3, d4⟩ := rf0 f1
  rw [show (D.toR p).k = (p.k : Int) from rfl] at c0
  rw [show (D.toR p).p = (p.p : Int) from rfl] at c1
  rw [show (D.toR p).a = (p.a : Int) from rfl] at c2
  rw [show (D.toR p).n = p.n from rfl] at c3
  rw [show (D.toR p).t = p.t from rfl] at c4
  rw [show (D.toR x).k = (x.k : Int) from rfl] at d0
  rw [show (D.toR x).p = (x.p : Int) from rfl] at d1
  rw [show (D.toR x).a = (x.a : Int) from rfl] at d2
  rw [show (D.toR x).n = x.n from rfl] at d3
  rw [show (D.toR x).t = x.t from rfl] at d4
  rw [h0] at c0
  clear h0
  have g1 : ¬ ((p.p : Int) = (x.p : Int)) := by omega
  clear h1
  go_enter Try.func18, Try.ntmps18
  go_wp2
  go_ret
  exact ⟨by rfl, z0⟩

set_option maxHeartbeats 2000000 in
theorem rhas_4_2 (p x : D.Ky) (w : World) (h0 : p.k = x.k) (h1 : p.p = x.p) (h2 : p.a ≠ x.a) : Calls Try.prog 18 #[.agg (rS.v (D.toR p)), .int .i64 4, .agg (rS.v (D.toR x))] w fun e w' => e = .returned (.bool false) ∧ Below w.heap.size w w' := by
  obtain ⟨W0, hW0⟩ : ∃ W, (w.alloc (.cells (rS.v (D.toR p)) 40)).alloc (.cells (rS.v (D.toR x)) 40) = W := ⟨_, rfl⟩
  have z0 : Below w.heap.size w W0 := by rw [← hW0]; exact (below_alloc_ _ _).alloc (by simp) _
  have f0 : rS.rd W0 ⟨w.heap.size, 0, none⟩ = some (D.toR p) := by rw [← hW0]; exact Shp.rd_on (Shp.rd_new (S := rS) w _ _ _ rfl) (below_alloc_ _ _)
  have f1 : rS.rd W0 ⟨w.heap.size + 1, 0, none⟩ = some (D.toR x) := by rw [← hW0]; exact Shp.rd_new _ _ _ _ (by simp)
  obtain ⟨c0, c1, c2, c3, c4⟩ := rf0 f0
  obtain ⟨d0, d1, d2, d3, d4⟩ := rf0 f1
  rw [show (D.toR p).k = (p.k : Int) from rfl] at c0
  rw [show (D.toR p).p = (p.p : Int) from rfl] at c1
  rw [show (D.toR p).a = (p.a : Int) from rfl] at c2
  rw [show (D.toR p).n = p.n from rfl] at c3
  rw [show (D.toR p).t = p.t from rfl] at c4
  rw [show (D.toR x).k = (x.k : Int) from rfl] at d0
  rw [show (D.toR x).p = (x.p : Int) from rfl] at d1
  rw [show (D.toR x).a = (x.a : Int) from rfl] at d2
  rw [show (D.toR x).n = x.n from rfl] at d3
  rw [show (D.toR x).t = x.t from rfl] at d4
  rw [h0] at c0
  clear h0
  rw [h1] at c1
  clear h1
  have g2 : ¬ ((p.a : Int) = (x.a : Int)) := by omega
  clear h2
  go_enter Try.func18, Try.ntmps18
  go_wp2
  go_ret
  exact ⟨by rfl, z0⟩

set_option maxHeartbeats 2000000 in
theorem rhas_4_3 (p x : D.Ky) (w : World) (h0 : p.k = x.k) (h1 : p.p = x.p) (h2 : p.a = x.a) (h3 : Nm.sm p.n x.n = false) : Calls Try.prog 18 #[.agg (rS.v (D.toR p)), .int .i64 4, .agg (rS.v (D.toR x))] w fun e w' => e = .returned (.bool false) ∧ Below w.heap.size w w' := by
  obtain ⟨W0, hW0⟩ : ∃ W, (w.alloc (.cells (rS.v (D.toR p)) 40)).alloc (.cells (rS.v (D.toR x)) 40) = W := ⟨_, rfl⟩
  have z0 : Below w.heap.size w W0 := by rw [← hW0]; exact (below_alloc_ _ _).alloc (by simp) _
  have f0 : rS.rd W0 ⟨w.heap.size, 0, none⟩ = some (D.toR p) := by rw [← hW0]; exact Shp.rd_on (Shp.rd_new (S := rS) w _ _ _ rfl) (below_alloc_ _ _)
  have f1 : rS.rd W0 ⟨w.heap.size + 1, 0, none⟩ = some (D.toR x) := by rw [← hW0]; exact Shp.rd_new _ _ _ _ (by simp)
  obtain ⟨c0, c1, c2, c3, c4⟩ := rf0 f0
  obtain ⟨d0, d1, d2, d3, d4⟩ := rf0 f1
  rw [show (D.toR p).k = (p.k : Int) from rfl] at c0
  rw [show (D.toR p).p = (p.p : Int) from rfl] at c1
  rw [show (D.toR p).a = (p.a : Int) from rfl] at c2
  rw [show (D.toR p).n = p.n from rfl] at c3
  rw [show (D.toR p).t = p.t from rfl] at c4
  rw [show (D.toR x).k = (x.k : Int) from rfl] at d0
  rw [show (D.toR x).p = (x.p : Int) from rfl] at d1
  rw [show (D.toR x).a = (x.a : Int) from rfl] at d2
  rw [show (D.toR x).n = x.n from rfl] at d3
  rw [show (D.toR x).t = x.t from rfl] at d4
  rw [h0] at c0
  clear h0
  rw [h1] at c1
  clear h1
  rw [h2] at c2
  clear h2
  go_enter Try.func18, Try.ntmps18
  go_wp2
  go_ret
  exact ⟨by rfl, z0⟩

set_option maxHeartbeats 2000000 in
theorem rhas_4_4 (p x : D.Ky) (w : World) (h0 : p.k = x.k) (h1 : p.p = x.p) (h2 : p.a = x.a) (h3 : Nm.sm p.n x.n = true) : Calls Try.prog 18 #[.agg (rS.v (D.toR p)), .int .i64 4, .agg (rS.v (D.toR x))] w fun e w' => e = .returned (.bool true) ∧ Below w.heap.size w w' := by
  obtain ⟨W0, hW0⟩ : ∃ W, (w.alloc (.cells (rS.v (D.toR p)) 40)).alloc (.cells (rS.v (D.toR x)) 40) = W := ⟨_, rfl⟩
  have z0 : Below w.heap.size w W0 := by rw [← hW0]; exact (below_alloc_ _ _).alloc (by simp) _
  have f0 : rS.rd W0 ⟨w.heap.size, 0, none⟩ = some (D.toR p) := by rw [← hW0]; exact Shp.rd_on (Shp.rd_new (S := rS) w _ _ _ rfl) (below_alloc_ _ _)
  have f1 : rS.rd W0 ⟨w.heap.size + 1, 0, none⟩ = some (D.toR x) := by rw [← hW0]; exact Shp.rd_new _ _ _ _ (by simp)
  obtain ⟨c0, c1, c2, c3, c4⟩ := rf0 f0
  obtain ⟨d0, d1, d2, d3, d4⟩ := rf0 f1
  rw [show (D.toR p).k = (p.k : Int) from rfl] at c0
  rw [show (D.toR p).p = (p.p : Int) from rfl] at c1
  rw [show (D.toR p).a = (p.a : Int) from rfl] at c2
  rw [show (D.toR p).n = p.n from rfl] at c3
  rw [show (D.toR p).t = p.t from rfl] at c4
  rw [show (D.toR x).k = (x.k : Int) from rfl] at d0
  rw [show (D.toR x).p = (x.p : Int) from rfl] at d1
  rw [show (D.toR x).a = (x.a : Int) from rfl] at d2
  rw [show (D.toR x).n = x.n from rfl] at d3
  rw [show (D.toR x).t = x.t from rfl] at d4
  rw [h0] at c0
  clear h0
  rw [h1] at c1
  clear h1
  rw [h2] at c2
  clear h2
  go_enter Try.func18, Try.ntmps18
  go_wp2
  go_ret
  exact ⟨by rfl, z0⟩

set_option maxHeartbeats 2000000 in
theorem rhas_5_0 (p x : D.Ky) (w : World) (h0 : p.k ≠ x.k) : Calls Try.prog 18 #[.agg (rS.v (D.toR p)), .int .i64 5, .agg (rS.v (D.toR x))] w fun e w' => e = .returned (.bool false) ∧ Below w.heap.size w w' := by
  obtain ⟨W0, hW0⟩ : ∃ W, (w.alloc (.cells (rS.v (D.toR p)) 40)).alloc (.cells (rS.v (D.toR x)) 40) = W := ⟨_, rfl⟩
  have z0 : Below w.heap.size w W0 := by rw [← hW0]; exact (below_alloc_ _ _).alloc (by simp) _
  have f0 : rS.rd W0 ⟨w.heap.size, 0, none⟩ = some (D.toR p) := by rw [← hW0]; exact Shp.rd_on (Shp.rd_new (S := rS) w _ _ _ rfl) (below_alloc_ _ _)
  have f1 : rS.rd W0 ⟨w.heap.size + 1, 0, none⟩ = some (D.toR x) := by rw [← hW0]; exact Shp.rd_new _ _ _ _ (by simp)
  obtain ⟨c0, c1, c2, c3, c4⟩ := rf0 f0
  obtain ⟨d0, d1, d2, d3, d4⟩ := rf0 f1
  rw [show (D.toR p).k = (p.k : Int) from rfl] at c0
  rw [show (D.toR p).p = (p.p : Int) from rfl] at c1
  rw [show (D.toR p).a = (p.a : Int) from rfl] at c2
  rw [show (D.toR p).n = p.n from rfl] at c3
  rw [show (D.toR p).t = p.t from rfl] at c4
  rw [show (D.toR x).k = (x.k : Int) from rfl] at d0
  rw [show (D.toR x).p = (x.p : Int) from rfl] at d1
  rw [show (D.toR x).a = (x.a : Int) from rfl] at d2
  rw [show (D.toR x).n = x.n from rfl] at d3
  rw [show (D.toR x).t = x.t from rfl] at d4
  have g0 : ¬ ((p.k : Int) = (x.k : Int)) := by omega
  clear h0
  go_enter Try.func18, Try.ntmps18
  go_wp2
  go_ret
  exact ⟨by rfl, z0⟩

set_option maxHeartbeats 2000000 in
theorem rhas_5_1 (p x : D.Ky) (w : World) (h0 : p.k = x.k) (h1 : p.p ≠ x.p) : Calls Try.prog 18 #[.agg (rS.v (D.toR p)), .int .i64 5, .agg (rS.v (D.toR x))] w fun e w' => e = .returned (.bool false) ∧ Below w.heap.size w w' := by
  obtain ⟨W0, hW0⟩ : ∃ W, (w.alloc (.cells (rS.v (D.toR p)) 40)).alloc (.cells (rS.v (D.toR x)) 40) = W := ⟨_, rfl⟩
  have z0 : Below w.heap.size w W0 := by rw [← hW0]; exact (below_alloc_ _ _).alloc (by simp) _
  have f0 : rS.rd W0 ⟨w.heap.size, 0, none⟩ = some (D.toR p) := by rw [← hW0]; exact Shp.rd_on (Shp.rd_new (S := rS) w _ _ _ rfl) (below_alloc_ _ _)
  have f1 : rS.rd W0 ⟨w.heap.size + 1, 0, none⟩ = some (D.toR x) := by rw [← hW0]; exact Shp.rd_new _ _ _ _ (by simp)
  obtain ⟨c0, c1, c2, c3, c4⟩ := rf0 f0
  obtain ⟨d0, d1, d2, d3, d4⟩ := rf0 f1
  rw [show (D.toR p).k = (p.k : Int) from rfl] at c0
  rw [show (D.toR p).p = (p.p : Int) from rfl] at c1
  rw [show (D.toR p).a = (p.a : Int) from rfl] at c2
  rw [show (D.toR p).n = p.n from rfl] at c3
  rw [show (D.toR p).t = p.t from rfl] at c4
  rw [show (D.toR x).k = (x.k : Int) from rfl] at d0
  rw [show (D.toR x).p = (x.p : Int) from rfl] at d1
  rw [show (D.toR x).a = (x.a : Int) from rfl] at d2
  rw [show (D.toR x).n = x.n from rfl] at d3
  rw [show (D.toR x).t = x.t from rfl] at d4
  rw [h0] at c0
  clear h0
  have g1 : ¬ ((p.p : Int) = (x.p : Int)) := by omega
  clear h1
  go_enter Try.func18, Try.ntmps18
  go_wp2
  go_ret
  exact ⟨by rfl, z0⟩

set_option maxHeartbeats 2000000 in
theorem rhas_5_2 (p x : D.Ky) (w : World) (h0 : p.k = x.k) (h1 : p.p = x.p) (h2 : p.a ≠ x.a) : Calls Try.prog 18 #[.agg (rS.v (D.toR p)), .int .i64 5, .agg (rS.v (D.toR x))] w fun e w' => e = .returned (.bool false) ∧ Below w.heap.size w w' := by
  obtain ⟨W0, hW0⟩ : ∃ W, (w.alloc (.cells (rS.v (D.toR p)) 40)).alloc (.cells (rS.v (D.toR x)) 40) = W := ⟨_, rfl⟩
  have z0 : Below w.heap.size w W0 := by rw [← hW0]; exact (below_alloc_ _ _).alloc (by simp) _
  have f0 : rS.rd W0 ⟨w.heap.size, 0, none⟩ = some (D.toR p) := by rw [← hW0]; exact Shp.rd_on (Shp.rd_new (S := rS) w _ _ _ rfl) (below_alloc_ _ _)
  have f1 : rS.rd W0 ⟨w.heap.size + 1, 0, none⟩ = some (D.toR x) := by rw [← hW0]; exact Shp.rd_new _ _ _ _ (by simp)
  obtain ⟨c0, c1, c2, c3, c4⟩ := rf0 f0
  obtain ⟨d0, d1, d2, d3, d4⟩ := rf0 f1
  rw [show (D.toR p).k = (p.k : Int) from rfl] at c0
  rw [show (D.toR p).p = (p.p : Int) from rfl] at c1
  rw [show (D.toR p).a = (p.a : Int) from rfl] at c2
  rw [show (D.toR p).n = p.n from rfl] at c3
  rw [show (D.toR p).t = p.t from rfl] at c4
  rw [show (D.toR x).k = (x.k : Int) from rfl] at d0
  rw [show (D.toR x).p = (x.p : Int) from rfl] at d1
  rw [show (D.toR x).a = (x.a : Int) from rfl] at d2
  rw [show (D.toR x).n = x.n from rfl] at d3
  rw [show (D.toR x).t = x.t from rfl] at d4
  rw [h0] at c0
  clear h0
  rw [h1] at c1
  clear h1
  have g2 : ¬ ((p.a : Int) = (x.a : Int)) := by omega
  clear h2
  go_enter Try.func18, Try.ntmps18
  go_wp2
  go_ret
  exact ⟨by rfl, z0⟩

set_option maxHeartbeats 2000000 in
theorem rhas_5_3 (p x : D.Ky) (w : World) (h0 : p.k = x.k) (h1 : p.p = x.p) (h2 : p.a = x.a) (h3 : Nm.sm p.n x.n = false) : Calls Try.prog 18 #[.agg (rS.v (D.toR p)), .int .i64 5, .agg (rS.v (D.toR x))] w fun e w' => e = .returned (.bool false) ∧ Below w.heap.size w w' := by
  obtain ⟨W0, hW0⟩ : ∃ W, (w.alloc (.cells (rS.v (D.toR p)) 40)).alloc (.cells (rS.v (D.toR x)) 40) = W := ⟨_, rfl⟩
  have z0 : Below w.heap.size w W0 := by rw [← hW0]; exact (below_alloc_ _ _).alloc (by simp) _
  have f0 : rS.rd W0 ⟨w.heap.size, 0, none⟩ = some (D.toR p) := by rw [← hW0]; exact Shp.rd_on (Shp.rd_new (S := rS) w _ _ _ rfl) (below_alloc_ _ _)
  have f1 : rS.rd W0 ⟨w.heap.size + 1, 0, none⟩ = some (D.toR x) := by rw [← hW0]; exact Shp.rd_new _ _ _ _ (by simp)
  obtain ⟨c0, c1, c2, c3, c4⟩ := rf0 f0
  obtain ⟨d0, d1, d2, d3, d4⟩ := rf0 f1
  rw [show (D.toR p).k = (p.k : Int) from rfl] at c0
  rw [show (D.toR p).p = (p.p : Int) from rfl] at c1
  rw [show (D.toR p).a = (p.a : Int) from rfl] at c2
  rw [show (D.toR p).n = p.n from rfl] at c3
  rw [show (D.toR p).t = p.t from rfl] at c4
  rw [show (D.toR x).k = (x.k : Int) from rfl] at d0
  rw [show (D.toR x).p = (x.p : Int) from rfl] at d1
  rw [show (D.toR x).a = (x.a : Int) from rfl] at d2
  rw [show (D.toR x).n = x.n from rfl] at d3
  rw [show (D.toR x).t = x.t from rfl] at d4
  rw [h0] at c0
  clear h0
  rw [h1] at c1
  clear h1
  rw [h2] at c2
  clear h2
  go_enter Try.func18, Try.ntmps18
  go_wp2
  go_ret
  exact ⟨by rfl, z0⟩

set_option maxHeartbeats 2000000 in
theorem rhas_5_4 (p x : D.Ky) (w : World) (h0 : p.k = x.k) (h1 : p.p = x.p) (h2 : p.a = x.a) (h3 : Nm.sm p.n x.n = true) (h4 : sm p.t x.t = false) : Calls Try.prog 18 #[.agg (rS.v (D.toR p)), .int .i64 5, .agg (rS.v (D.toR x))] w fun e w' => e = .returned (.bool false) ∧ Below w.heap.size w w' := by
  obtain ⟨W0, hW0⟩ : ∃ W, (w.alloc (.cells (rS.v (D.toR p)) 40)).alloc (.cells (rS.v (D.toR x)) 40) = W := ⟨_, rfl⟩
  have z0 : Below w.heap.size w W0 := by rw [← hW0]; exact (below_alloc_ _ _).alloc (by simp) _
  have f0 : rS.rd W0 ⟨w.heap.size, 0, none⟩ = some (D.toR p) := by rw [← hW0]; exact Shp.rd_on (Shp.rd_new (S := rS) w _ _ _ rfl) (below_alloc_ _ _)
  have f1 : rS.rd W0 ⟨w.heap.size + 1, 0, none⟩ = some (D.toR x) := by rw [← hW0]; exact Shp.rd_new _ _ _ _ (by simp)
  obtain ⟨c0, c1, c2, c3, c4⟩ := rf0 f0
  obtain ⟨d0, d1, d2, d3, d4⟩ := rf0 f1
  rw [show (D.toR p).k = (p.k : Int) from rfl] at c0
  rw [show (D.toR p).p = (p.p : Int) from rfl] at c1
  rw [show (D.toR p).a = (p.a : Int) from rfl] at c2
  rw [show (D.toR p).n = p.n from rfl] at c3
  rw [show (D.toR p).t = p.t from rfl] at c4
  rw [show (D.toR x).k = (x.k : Int) from rfl] at d0
  rw [show (D.toR x).p = (x.p : Int) from rfl] at d1
  rw [show (D.toR x).a = (x.a : Int) from rfl] at d2
  rw [show (D.toR x).n = x.n from rfl] at d3
  rw [show (D.toR x).t = x.t from rfl] at d4
  rw [h0] at c0
  clear h0
  rw [h1] at c1
  clear h1
  rw [h2] at c2
  clear h2
  go_enter Try.func18, Try.ntmps18
  go_wp2
  go_ret
  exact ⟨by rfl, z0⟩

set_option maxHeartbeats 2000000 in
theorem rhas_5_5 (p x : D.Ky) (w : World) (h0 : p.k = x.k) (h1 : p.p = x.p) (h2 : p.a = x.a) (h3 : Nm.sm p.n x.n = true) (h4 : sm p.t x.t = true) : Calls Try.prog 18 #[.agg (rS.v (D.toR p)), .int .i64 5, .agg (rS.v (D.toR x))] w fun e w' => e = .returned (.bool true) ∧ Below w.heap.size w w' := by
  obtain ⟨W0, hW0⟩ : ∃ W, (w.alloc (.cells (rS.v (D.toR p)) 40)).alloc (.cells (rS.v (D.toR x)) 40) = W := ⟨_, rfl⟩
  have z0 : Below w.heap.size w W0 := by rw [← hW0]; exact (below_alloc_ _ _).alloc (by simp) _
  have f0 : rS.rd W0 ⟨w.heap.size, 0, none⟩ = some (D.toR p) := by rw [← hW0]; exact Shp.rd_on (Shp.rd_new (S := rS) w _ _ _ rfl) (below_alloc_ _ _)
  have f1 : rS.rd W0 ⟨w.heap.size + 1, 0, none⟩ = some (D.toR x) := by rw [← hW0]; exact Shp.rd_new _ _ _ _ (by simp)
  obtain ⟨c0, c1, c2, c3, c4⟩ := rf0 f0
  obtain ⟨d0, d1, d2, d3, d4⟩ := rf0 f1
  rw [show (D.toR p).k = (p.k : Int) from rfl] at c0
  rw [show (D.toR p).p = (p.p : Int) from rfl] at c1
  rw [show (D.toR p).a = (p.a : Int) from rfl] at c2
  rw [show (D.toR p).n = p.n from rfl] at c3
  rw [show (D.toR p).t = p.t from rfl] at c4
  rw [show (D.toR x).k = (x.k : Int) from rfl] at d0
  rw [show (D.toR x).p = (x.p : Int) from rfl] at d1
  rw [show (D.toR x).a = (x.a : Int) from rfl] at d2
  rw [show (D.toR x).n = x.n from rfl] at d3
  rw [show (D.toR x).t = x.t from rfl] at d4
  rw [h0] at c0
  clear h0
  rw [h1] at c1
  clear h1
  rw [h2] at c2
  clear h2
  go_enter Try.func18, Try.ntmps18
  go_wp2
  go_ret
  exact ⟨by rfl, z0⟩

theorem rhas_no (p x : D.Ky) (d : Int) (w : World) (h : ¬ (0 ≤ d ∧ d ≤ 5)) : Calls Try.prog 18 #[.agg (rS.v (D.toR p)), .int .i64 d, .agg (rS.v (D.toR x))] w fun e w' => e = .returned (.bool false) ∧ Below w.heap.size w w' := by
  have z0 : Below w.heap.size w ((w.alloc (.cells (rS.v (D.toR p)) 40)).alloc (.cells (rS.v (D.toR x)) 40)) := (below_alloc_ _ _).alloc (by simp) _
  by_cases h0 : d < 0
  · go_enter Try.func18, Try.ntmps18
    go_wp2
    go_ret
    exact ⟨by rfl, z0⟩
  · have h1 : 0 ≤ d := by omega
    have h5 : 5 < d := by omega
    go_enter Try.func18, Try.ntmps18
    go_wp2
    go_ret
    exact ⟨by rfl, z0⟩

theorem nsm_iff (x y : Nm.D.Nm) : Nm.sm x y = decide (x = y) := rfl
theorem rhas_any (p x : D.Ky) (d : Int) (w : World) : Calls Try.prog 18 #[.agg (rS.v (D.toR p)), .int .i64 d, .agg (rS.v (D.toR x))] w fun e w' => e = .returned (.bool (D.has p d x)) ∧ Below w.heap.size w w' := by
  rw [D.has_iff]
  by_cases h : 0 ≤ d ∧ d ≤ 5
  · obtain rfl | rfl | rfl | rfl | rfl | rfl : d = 0 ∨ d = 1 ∨ d = 2 ∨ d = 3 ∨ d = 4 ∨ d = 5 := by omega
    · rw [decide_eq_true (by simp)]; exact rhas_0_0 p x w 
    · by_cases h0 : p.k = x.k
      rotate_left
      · rw [decide_eq_false (by simp [h0])]; exact rhas_1_0 p x w h0
      rw [decide_eq_true (by simp [h0])]; exact rhas_1_1 p x w h0
    · by_cases h0 : p.k = x.k
      rotate_left
      · rw [decide_eq_false (by simp [h0])]; exact rhas_2_0 p x w h0
      by_cases h1 : p.p = x.p
      rotate_left
      · rw [decide_eq_false (by simp [h1])]; exact rhas_2_1 p x w h0 h1
      rw [decide_eq_true (by simp [h0, h1])]; exact rhas_2_2 p x w h0 h1
    · by_cases h0 : p.k = x.k
      rotate_left
      · rw [decide_eq_false (by simp [h0])]; exact rhas_3_0 p x w h0
      by_cases h1 : p.p = x.p
      rotate_left
      · rw [decide_eq_false (by simp [h1])]; exact rhas_3_1 p x w h0 h1
      by_cases h2 : p.a = x.a
      rotate_left
      · rw [decide_eq_false (by simp [h2])]; exact rhas_3_2 p x w h0 h1 h2
      rw [decide_eq_true (by simp [h0, h1, h2])]; exact rhas_3_3 p x w h0 h1 h2
    · by_cases h0 : p.k = x.k
      rotate_left
      · rw [decide_eq_false (by simp [h0])]; exact rhas_4_0 p x w h0
      by_cases h1 : p.p = x.p
      rotate_left
      · rw [decide_eq_false (by simp [h1])]; exact rhas_4_1 p x w h0 h1
      by_cases h2 : p.a = x.a
      rotate_left
      · rw [decide_eq_false (by simp [h2])]; exact rhas_4_2 p x w h0 h1 h2
      by_cases h3 : p.n = x.n
      rotate_left
      · rw [decide_eq_false (by simp [h3])]; exact rhas_4_3 p x w h0 h1 h2 (by rw [nsm_iff]; simp [h3])
      rw [decide_eq_true (by simp [h0, h1, h2, h3])]; exact rhas_4_4 p x w h0 h1 h2 (by rw [nsm_iff]; simp [h3])
    · by_cases h0 : p.k = x.k
      rotate_left
      · rw [decide_eq_false (by simp [h0])]; exact rhas_5_0 p x w h0
      by_cases h1 : p.p = x.p
      rotate_left
      · rw [decide_eq_false (by simp [h1])]; exact rhas_5_1 p x w h0 h1
      by_cases h2 : p.a = x.a
      rotate_left
      · rw [decide_eq_false (by simp [h2])]; exact rhas_5_2 p x w h0 h1 h2
      by_cases h3 : p.n = x.n
      rotate_left
      · rw [decide_eq_false (by simp [h3])]; exact rhas_5_3 p x w h0 h1 h2 (by rw [nsm_iff]; simp [h3])
      by_cases h4 : p.t = x.t
      rotate_left
      · rw [decide_eq_false (by simp [h4])]; exact rhas_5_4 p x w h0 h1 h2 (by rw [nsm_iff]; simp [h3]) (by rw [show sm p.t x.t = decide (p.t = x.t) from rfl]; simp [h4])
      rw [decide_eq_true (by simp [h0, h1, h2, h3, h4])]; exact rhas_5_5 p x w h0 h1 h2 (by rw [nsm_iff]; simp [h3]) (by rw [show sm p.t x.t = decide (p.t = x.t) from rfl]; simp [h4])
  · rw [decide_eq_false (by omega)]; exact rhas_no p x d w h

end Go.Proofs.Ytkhjnfplcaffnaa
