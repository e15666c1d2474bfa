/-
  Has, of prefixes.
-/
import Derived.Test.YtphbjkcplpfogaaKrt
import Derived.BigQuiet
set_option linter.unusedVariables false
set_option linter.unusedSimpArgs false
set_option maxRecDepth 100000
namespace Go.Proofs.Ytphbjkcplpfogaa
open Go.RowKit
theorem Shp.rd_ext_ {α : Type} {S : Shp α} (w : World) (p : On) (a : Addr) (h : a.block < w.heap.size) : S.rd (ext w p) a = S.rd w a := Shp.rd_to (ext_heap w p h)
theorem Nm.rd_ext_ (w : World) (p : On) (a : Addr) (h : a.block < w.heap.size) : Nm.rd (ext w p) a = Nm.rd w a := Nm.rd_to (ext_heap w p h)
attribute [local go_sem ↓] Go.wp_at_zero Go.wp_at_succ ld_k lv_k st_k eq_k ne_k bd_k ld_b lv_b st_b eq_b ne_b bd_25 ld_r lv_r st_rk eq_rk ne_rk bd_r ld_p lv_p st_px bd_p Nm.ld_a Nm.ld_n Nm.st_a Nm.st_n Nm.eq_a Nm.eq_n Nm.ne_a Nm.ne_n Nm.lv_a Nm.lv_n ld_a ld_n st_a st_n eq_a eq_n ne_a ne_n lv_a lv_n
attribute [local go_sem] run_ldk run_lvk run_stk run_eqk run_nek run_bdk_z run_ldb run_lvb run_stb run_eqb run_neb run_ldr run_lvr run_strk run_eqrk run_nerk run_bdr_z run_ldp run_lvp run_stpx Nm.run_ld_a Nm.run_ld_n Nm.run_st_n Nm.run_eq_a Nm.run_eq_n Nm.run_ne_a Nm.run_ne_n Nm.run_lv_a Nm.run_lv_n Nm.rd_new Nm.rd_old Nm.rd_drew Nm.rd_drewN run_ld_a run_ld_n run_sw_a run_sw_n run_eq_a run_eq_n run_ne_a run_ne_n run_lv_a run_lv_n st_z ne_z eq_z rd_new rd_old rd_drew rd_drewN Shp.rd_new Shp.rd_old Shp.rd_drew Shp.rd_drewN Shp.rd_set Shp.tn_new Shp.tn_old Shp.tn_drew Shp.tn_drewN setRow_alloc run_stn3 run_stt15 Shp.rd_ext_ cell_ext rd_ext

set_option maxHeartbeats 4000000 in
theorem has_in (q : D.Px) (x : D.Ky) (w : World) (h0 : 0 ≤ q.d) (h5 : q.d ≤ 5) : Calls Try.prog 40 #[.agg (pS.v q), .agg (kS.v x)] w fun e w' => e = .returned (.bool (kS.sm (D.upto q.x q.d) (D.upto x q.d))) ∧ Below w.heap.size w w' := by
  obtain ⟨W0, hW0⟩ : ∃ W, (w.alloc (.cells (pS.v q) 52)).alloc (.cells (kS.v x) 30) = W := ⟨_, rfl⟩
  have p0 : pS.rd W0 ⟨w.heap.size, 0, none⟩ = some q := by rw [← hW0]; exact Shp.rd_on (Shp.rd_new (S := pS) w _ _ q rfl) (below_alloc_ _ _)
  have f1 : kS.rd W0 ⟨w.heap.size + 1, 0, none⟩ = some x := by rw [← hW0]; exact Shp.rd_new _ _ _ _ (by simp)
  have z0 : Below w.heap.size w W0 := by rw [← hW0]; exact (below_alloc_ _ _).alloc (by simp) _
  have s0 : w.heap.size < W0.heap.size := by rw [← hW0]; simp; omega
  have s1 : w.heap.size + 1 < W0.heap.size := by rw [← hW0]; simp
  obtain ⟨f0, c0⟩ := pf0 p0
  have g0 : decide (0 ≤ q.d) = true := decide_eq_true h0
  have g5 : decide (q.d ≤ 5) = true := decide_eq_true h5
  have C1 := Lib.hid (upto_any q.x q.d)
  have C2 := Lib.hid (upto_any x q.d)
  clear p0
  go_enter Try.func40, Try.ntmps40
  go_wp2_with fail
  try rw [hW0]
  clear hW0
  refine wp_region_ext (by kernel_rfl) (by kernel_rfl) ?_
  repeat (go_big_quiet_step (first | (go_at_call 55; with_reducible exact calls_ext (C1.out _)) | (go_at_call 55; with_reducible exact calls_ext (C2.out _))))
  refine wpQuiet_nil ?_
  intro w4 hw4
  have b4 := ext_to hw4
  clear hw4
  go_wp2
  go_ret
  exact ⟨by rfl, below_up z0 (Nat.le_of_lt s0) b4⟩

set_option maxHeartbeats 4000000 in
theorem has_neg (q : D.Px) (x : D.Ky) (w : World) (h0 : q.d < 0) : Calls Try.prog 40 #[.agg (pS.v q), .agg (kS.v x)] w fun e w' => e = .returned (.bool false) ∧ Below w.heap.size w w' := by
  obtain ⟨W0, hW0⟩ : ∃ W, (w.alloc (.cells (pS.v q) 52)).alloc (.cells (kS.v x) 30) = W := ⟨_, rfl⟩
  have p0 : pS.rd W0 ⟨w.heap.size, 0, none⟩ = some q := by rw [← hW0]; exact Shp.rd_on (Shp.rd_new (S := pS) w _ _ q rfl) (below_alloc_ _ _)
  have f1 : kS.rd W0 ⟨w.heap.size + 1, 0, none⟩ = some x := by rw [← hW0]; exact Shp.rd_new _ _ _ _ (by simp)
  have z0 : Below w.heap.size w W0 := by rw [← hW0]; exact (below_alloc_ _ _).alloc (by simp) _
  have s0 : w.heap.size < W0.heap.size := by rw [← hW0]; simp; omega
  have s1 : w.heap.size + 1 < W0.heap.size := by rw [← hW0]; simp
  obtain ⟨f0, c0⟩ := pf0 p0
  have g0 : decide (0 ≤ q.d) = false := decide_eq_false (by omega)
  clear p0
  go_enter Try.func40, Try.ntmps40
  go_wp2_with fail
  try rw [hW0]
  clear hW0
  refine wp_region_ext (by kernel_rfl) (by kernel_rfl) ?_
  repeat (go_big_quiet_step (fail))
  refine wpQuiet_nil ?_
  intro w4 hw4
  have b4 := ext_to hw4
  clear hw4
  go_wp2
  go_ret
  exact ⟨by rfl, below_up z0 (Nat.le_of_lt s0) b4⟩

set_option maxHeartbeats 4000000 in
theorem has_big (q : D.Px) (x : D.Ky) (w : World) (h0 : 0 ≤ q.d) (h5 : 5 < q.d) : Calls Try.prog 40 #[.agg (pS.v q), .agg (kS.v x)] w fun e w' => e = .returned (.bool false) ∧ Below w.heap.size w w' := by
  obtain ⟨W0, hW0⟩ : ∃ W, (w.alloc (.cells (pS.v q) 52)).alloc (.cells (kS.v x) 30) = W := ⟨_, rfl⟩
  have p0 : pS.rd W0 ⟨w.heap.size, 0, none⟩ = some q := by rw [← hW0]; exact Shp.rd_on (Shp.rd_new (S := pS) w _ _ q rfl) (below_alloc_ _ _)
  have f1 : kS.rd W0 ⟨w.heap.size + 1, 0, none⟩ = some x := by rw [← hW0]; exact Shp.rd_new _ _ _ _ (by simp)
  have z0 : Below w.heap.size w W0 := by rw [← hW0]; exact (below_alloc_ _ _).alloc (by simp) _
  have s0 : w.heap.size < W0.heap.size := by rw [← hW0]; simp; omega
  have s1 : w.heap.size + 1 < W0.heap.size := by rw [← hW0]; simp
  obtain ⟨f0, c0⟩ := pf0 p0
  have g0 : decide (0 ≤ q.d) = true := decide_eq_true h0
  have g5 : decide (q.d ≤ 5) = false := decide_eq_false (by omega)
  clear p0
  go_enter Try.func40, Try.ntmps40
  go_wp2_with fail
  try rw [hW0]
  clear hW0
  refine wp_region_ext (by kernel_rfl) (by kernel_rfl) ?_
  repeat (go_big_quiet_step (fail))
  refine wpQuiet_nil ?_
  intro w4 hw4
  have b4 := ext_to hw4
  clear hw4
  go_wp2
  go_ret
  exact ⟨by rfl, below_up z0 (Nat.le_of_lt s0) b4⟩

theorem has_any (q : D.Px) (x : D.Ky) (w : World) : Calls Try.prog 40 #[.agg (pS.v q), .agg (kS.v x)] w fun e w' => e = .returned (.bool (D.has q.x q.d x)) ∧ Below w.heap.size w w' := by
  unfold D.has
  by_cases h0 : 0 ≤ q.d
  · by_cases h5 : q.d ≤ 5
    · have := has_in q x w h0 h5
      rw [kS_sm] at this
      rw [show decide (0 ≤ q.d ∧ q.d ≤ 5 ∧ D.upto q.x q.d = D.upto x q.d) = decide (D.upto q.x q.d = D.upto x q.d) by simp [h0, h5]]
      exact this
    · rw [decide_eq_false (by omega)]; exact has_big q x w h0 (by omega)
  · rw [decide_eq_false (by omega)]; exact has_neg q x w (by omega)
end Go.Proofs.Ytphbjkcplpfogaa
