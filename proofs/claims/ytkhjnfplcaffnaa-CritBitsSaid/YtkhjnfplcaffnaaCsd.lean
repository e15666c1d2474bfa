/-
  One bit of a key.
-/
import Derived.Test.YtkhjnfplcaffnaaCrs
set_option linter.unusedVariables false
set_option linter.unusedSimpArgs false
set_option maxRecDepth 100000
namespace Go.Proofs.Ytkhjnfplcaffnaa
open Go.RowKit
attribute [local go_sem ↓] Go.wp_at_zero Go.wp_at_succ ld_k lv_k st_k eq_k ne_k bd_k ld_b lv_b st_b eq_b ne_b bd_25 ld_r lv_r st_rk eq_rk ne_rk bd_r ld_p lv_p st_px bd_p Nm.ld_a Nm.ld_n Nm.st_a Nm.st_n Nm.eq_a Nm.eq_n Nm.ne_a Nm.ne_n Nm.lv_a Nm.lv_n ld_a ld_n st_a st_n eq_a eq_n ne_a ne_n lv_a lv_n ld_l lv_l st_l bd_l bd_n bs_l bs_k
attribute [local go_sem] run_ldk run_lvk run_stk run_eqk run_nek run_bdk_z run_ldb run_lvb run_stb run_eqb run_neb run_ldr run_lvr run_strk run_eqrk run_nerk run_bdr_z run_ldp run_lvp run_stpx Nm.run_ld_a Nm.run_ld_n Nm.run_st_n Nm.run_eq_a Nm.run_eq_n Nm.run_ne_a Nm.run_ne_n Nm.run_lv_a Nm.run_lv_n Nm.rd_new Nm.rd_old Nm.rd_drew Nm.rd_drewN run_ld_a run_ld_n run_sw_a run_sw_n run_eq_a run_eq_n run_ne_a run_ne_n run_lv_a run_lv_n st_z ne_z eq_z rd_new rd_old rd_drew rd_drewN Shp.rd_new Shp.rd_old Shp.rd_drew Shp.rd_drewN Shp.rd_set Shp.tn_new Shp.tn_old Shp.tn_drew Shp.tn_drewN tn_new tn_old tn_drew tn_drewN rd_set setRow_alloc run_stn3 run_stt15 run_lvl run_ldl run_stl run_bdl run_bdn run_bdn0 run_bsl run_bsk

theorem kcell_at {w : World} {g o : Nat} {x : D.Ky} (h : kS.rd w ⟨g, o, none⟩ = some x) {j : Nat} (hj : j < 25) : w.cell? ⟨g, o + j, none⟩ = some (.int .u8 ((x.l.getD j 0 : Nat) : Int)) := by
  have hc : kS.At w ⟨g, o, none⟩ x := Shp.at_of h
  have := hc j (.int .u8 ((x.l.getD j 0 : Nat) : Int)) (bys_get (by rw [x.len]; exact hj))
  rwa [add_o] at this
def D.sd (x : D.Ky) (i : Nat) : Nat := if Cr.Bits.bt x i then 1 else 0
theorem D.sd_le (x : D.Ky) (i : Nat) : D.sd x i ≤ 1 := by unfold D.sd; split <;> omega
theorem side_num : ∀ (b : Fin 256) (k : Fin 8), wrap64 (bits .and .u8 ((b.val : Int) / 2 ^ (7 - k.val)) 1) = if b.val.testBit (7 - k.val) then 1 else 0 := by decide +kernel
set_option maxHeartbeats 1000000 in
theorem side_any (x : D.Ky) (i : Nat) (hi : i < 200) (w : World) : Calls Try.prog 42 #[.agg (kS.v x), .int .i64 (i : Nat)] w fun e w' => e = .returned (.int .i64 (D.sd x i : Nat)) ∧ Below w.heap.size w w' := by
  have f0 := Shp.rd_new (S := kS) w w.heap.size 101 x rfl
  have c0 := kcell_at f0 (j := i / 8) (by omega)
  rw [Nat.zero_add] at c0
  have i0 : (0 : Int) ≤ (i : Int) := by omega
  have i1 : (i : Int) < 200 := by omega
  have hs := side_num ⟨x.l.getD (i / 8) 0, D.byte_lt x _⟩ ⟨i % 8, by omega⟩
  have hd : ((D.sd x i : Nat) : Int) = if (x.l.getD (i / 8) 0).testBit (7 - i % 8) then 1 else 0 := by
    unfold D.sd
    rw [D.bt_def]
    unfold D.kbt
    split <;> rfl
  simp only at hs
  rw [← hd] at hs
  obtain ⟨b, hb⟩ : ∃ b, x.l.getD (i / 8) 0 = b := ⟨_, rfl⟩
  rw [hb] at c0 hs
  have HS := Lib.hid hs
  clear hs hd hb
  go_enter Try.func42, Try.ntmps42
  go_wp2
  go_ret
  refine ⟨?_, below_alloc_ _ _⟩
  rw [← HS.out]
  rfl
end Go.Proofs.Ytkhjnfplcaffnaa
