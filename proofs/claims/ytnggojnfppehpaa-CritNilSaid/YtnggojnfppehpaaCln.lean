/-
  A nil tree holds nothing: the law.
-/
import Derived.Test.YtnggojnfppehpaaCkn
set_option linter.unusedVariables false
set_option linter.unusedSimpArgs false
set_option maxRecDepth 100000
namespace Go.Proofs.Ytnggojnfppehpaa
open Go.RowKit
attribute [local go_sem ↓] Go.wp_at_zero Go.wp_at_succ ld_k lv_k st_k eq_k ne_k bd_k ld_b lv_b st_b eq_b ne_b bd_25 ld_r lv_r st_rk eq_rk ne_rk bd_r ld_p lv_p st_px bd_p Nm.ld_a Nm.ld_n Nm.st_a Nm.st_n Nm.eq_a Nm.eq_n Nm.ne_a Nm.ne_n Nm.lv_a Nm.lv_n ld_a ld_n st_a st_n eq_a eq_n ne_a ne_n lv_a lv_n ld_l lv_l st_l bd_l bd_n bs_l bs_k
attribute [local go_sem] run_ldk run_lvk run_stk run_eqk run_nek run_bdk_z run_ldb run_lvb run_stb run_eqb run_neb run_ldr run_lvr run_strk run_eqrk run_nerk run_bdr_z run_ldp run_lvp run_stpx Nm.run_ld_a Nm.run_ld_n Nm.run_st_n Nm.run_eq_a Nm.run_eq_n Nm.run_ne_a Nm.run_ne_n Nm.run_lv_a Nm.run_lv_n Nm.rd_new Nm.rd_old Nm.rd_drew Nm.rd_drewN run_ld_a run_ld_n run_sw_a run_sw_n run_eq_a run_eq_n run_ne_a run_ne_n run_lv_a run_lv_n st_z ne_z eq_z rd_new rd_old rd_drew rd_drewN Shp.rd_new Shp.rd_old Shp.rd_drew Shp.rd_drewN Shp.rd_set Shp.tn_new Shp.tn_old Shp.tn_drew Shp.tn_drewN tn_new tn_old tn_drew tn_drewN rd_set setRow_alloc run_stn3 run_stt15 run_lvl run_ldl run_stl run_bdl run_bdn run_bdn0 run_bsl run_bsk Shp.rd_extk cell_ext
set_option maxHeartbeats 16000000 in
theorem law_nil (k : D.Ky) (q : D.Px) (w : World) : Calls Try.prog 7 #[.agg (kS.v k), .agg (pS.v q)] w fun e w' => e = .returned (.bool true) ∧ Below w.heap.size w w' := by
  obtain ⟨w0, hw0⟩ : ∃ w0, (w.alloc (.cells (kS.v k) 30)).alloc (.cells (pS.v q) 52) = w0 := ⟨_, rfl⟩
  have b0 : Below w.heap.size w w0 := by rw [← hw0]; exact (below_alloc_ _ _).alloc (by simp) _
  have f0 : kS.rd w0 ⟨w.heap.size, 0, none⟩ = some k := by rw [← hw0]; exact Shp.rd_on (Shp.rd_new (S := kS) w _ _ _ rfl) (below_alloc_ _ _)
  have p0 : pS.rd w0 ⟨w.heap.size + 1, 0, none⟩ = some q := by rw [← hw0]; exact Shp.rd_new _ _ _ _ (by simp)
  have CG := Lib.hid (fun w => get_nil k w)
  have CX := Lib.hid (fun w => next_nil k w)
  have CF := Lib.hid (fun w => tfirst_nil w)
  have CK := Lib.hid (fun w => known_any w)
  have CP := Lib.hid (fun w => put_nil k 1 w)
  have CD := Lib.hid (fun b c w h => del_nil k b c w h)
  have CY := Lib.hid (fun w => keys_nil q w)
  have CB := Lib.hid (fun w => branch_nil k w)
  have CM := Lib.hid (fun f w => map_nil f w)
  go_enter Try.func7, Try.ntmps7
  go_wp2_with fail
  try rw [hw0]
  clear hw0
  go_wp2_with (first
    | (go_at_call 14; (with_reducible refine (CG.out _).mono ?_); rintro e w1 ⟨rfl, b1⟩; have f1 := Shp.rd_on f0 b1; have p1 := Shp.rd_on p0 b1; have z1 := below_up b0 b0.size b1)
    | (go_at_call 21; (with_reducible refine (CX.out _).mono ?_); rintro e w2 ⟨rfl, b2⟩; have b3 := b2.alloc b2.size (.cells (kS.v D.zK) 30); have f3 := Shp.rd_on f1 b3; have p3 := Shp.rd_on p1 b3; have z3 := below_up z1 z1.size b3)
    | (go_at_call 23; (with_reducible refine (CF.out _).mono ?_); rintro e w4 ⟨rfl, b4⟩; have b5 := b4.alloc b4.size (.cells (kS.v D.zK) 30); have f5 := Shp.rd_on f3 b5; have p5 := Shp.rd_on p3 b5; have z5 := below_up z3 z3.size b5)
    | (go_at_call 17; (with_reducible refine (CK.out _).mono ?_); rintro e w6 ⟨rfl, b6⟩; have f6 := Shp.rd_on f5 b6; have p6 := Shp.rd_on p5 b6; have z6 := below_up z5 z5.size b6)
    | (go_at_call 13; (with_reducible refine (CP.out _).mono ?_); rintro e w7 ⟨rfl, b7⟩; have b8 := b7.alloc b7.size (.cells (kS.v k) 30); have f7 := Shp.rd_on f6 b7; have f8 := Shp.rd_on f6 b8; have p8 := Shp.rd_on p6 b8; have z8 := below_up z6 z6.size b8; have n8 := Shp.rd_new (S := kS) w7 w7.heap.size 30 k rfl)
    | (go_at_call 11; (with_reducible refine (CD.out _ _ _ n8).mono ?_); rintro e w9 ⟨rfl, b9⟩; have f9 := Shp.rd_on f8 b9; have p9 := Shp.rd_on p8 b9; have z9 := below_up z8 z8.size b9)
    | (go_at_call 29; (with_reducible refine (len_nil _).mono ?_); rintro e w10 ⟨rfl, rfl⟩)
    | (go_at_call 19; (with_reducible refine (CY.out _).mono ?_); rintro e w11 ⟨rfl, b11⟩; have f11 := Shp.rd_on f9 b11; have z11 := below_up z9 z9.size b11)
    | (go_at_call 27; (with_reducible refine (CB.out _).mono ?_); rintro e w12 ⟨rfl, b12⟩; have z12 := below_up z11 z11.size b12)
    | (go_at_call 31; (with_reducible refine (CM.out _ _).mono ?_); rintro e w13 ⟨rfl, b13⟩; have z13 := below_up z12 z12.size b13))
  go_ret
  exact ⟨rfl, z13⟩
end Go.Proofs.Ytnggojnfppehpaa
