/-
  A tree's top, the nodes past which a key's bits lead: what is handed back to be ranged over.
-/
import Derived.Test.YtkhjnfplcaffnaaCpr
import Derived.Test.YtkhjnfplcaffnaaAExt
set_option linter.unusedVariables false
set_option linter.unusedSimpArgs false
set_option maxRecDepth 100000
namespace Go.Proofs.Ytkhjnfplcaffnaa
open Go.RowKit
attribute [local go_sem ↓] Go.wp_at_zero Go.wp_at_succ ld_k lv_k st_k eq_k ne_k bd_k ld_b lv_b st_b eq_b ne_b bd_25 ld_r lv_r st_rk eq_rk ne_rk bd_r ld_p lv_p st_px bd_p Nm.ld_a Nm.ld_n Nm.st_a Nm.st_n Nm.eq_a Nm.eq_n Nm.ne_a Nm.ne_n Nm.lv_a Nm.lv_n ld_a ld_n st_a st_n eq_a eq_n ne_a ne_n lv_a lv_n ld_l lv_l st_l bd_l bd_n bs_l bs_k
attribute [local go_sem] run_ldk run_lvk run_stk run_eqk run_nek run_bdk_z run_ldb run_lvb run_stb run_eqb run_neb run_ldr run_lvr run_strk run_eqrk run_nerk run_bdr_z run_ldp run_lvp run_stpx Nm.run_ld_a Nm.run_ld_n Nm.run_st_n Nm.run_eq_a Nm.run_eq_n Nm.run_ne_a Nm.run_ne_n Nm.run_lv_a Nm.run_lv_n Nm.rd_new Nm.rd_old Nm.rd_drew Nm.rd_drewN run_ld_a run_ld_n run_sw_a run_sw_n run_eq_a run_eq_n run_ne_a run_ne_n run_lv_a run_lv_n st_z ne_z eq_z rd_new rd_old rd_drew rd_drewN Shp.rd_new Shp.rd_old Shp.rd_drew Shp.rd_drewN Shp.rd_set Shp.tn_new Shp.tn_old Shp.tn_drew Shp.tn_drewN tn_new tn_old tn_drew tn_drewN rd_set setRow_alloc run_stn3 run_stt15 run_lvl run_ldl run_stl run_bdl run_bdn run_bdn0 run_bsl run_bsk
/-- A tree's pointer. -/
def tp (g : Nat) : Value := .pointer (some ⟨g, 0, none⟩)
theorem top_any (g : Nat) (w : World) : Calls Try.prog 44 #[.pointer (some ⟨g, 0, none⟩)] w fun e w' => e = .returned (.pointer (some ⟨g, 0, none⟩)) ∧ w = w' := by
  go_enter Try.func44, Try.ntmps44
  go_wp2
  go_ret
  exact ⟨rfl, rfl⟩
theorem top_nil (w : World) : Calls Try.prog 44 #[.pointer none] w fun e w' => e = .returned (.pointer (some ⟨w.heap.size, 0, none⟩)) ∧ w' = w.alloc (.cells #[.pointer none] 73) := by
  go_enter Try.func44, Try.ntmps44
  go_wp2
  go_ret
  exact ⟨rfl, rfl⟩
theorem passed_any (p : Option Addr) (k : D.Ky) (d : Int) (w : World) : Calls Try.prog 43 #[.pointer p, .agg (kS.v k), .int .i64 d] w fun e w' => e = .returned (.func (.func 57) #[] #[.pointer (some ⟨w.heap.size + 1, 0, none⟩), .pointer (some ⟨w.heap.size, 0, none⟩), .pointer (some ⟨w.heap.size + 2, 0, none⟩)]) ∧
    w' = ((w.alloc (.cells #[.pointer p] 31)).alloc (.cells (kS.v k) 30)).alloc (.cells #[.int .i64 d] 3) := by
  go_enter Try.func43, Try.ntmps43
  go_wp2
  go_ret
  exact ⟨by simp, rfl⟩
theorem new_any (w : World) : Calls Try.prog 6 #[] w fun e w' => e = .returned (.pointer (some ⟨w.heap.size, 0, none⟩)) ∧ TC w' w.heap.size none ∧ Below w.heap.size w w' := by
  go_enter Try.func6, Try.ntmps6
  go_wp2
  go_ret
  have h1 : TC (w.alloc (.cells #[.pointer none, .int .i64 0] 75)) w.heap.size none := TC.of ⟨⟨0, Blk.new w _ _⟩, fun t e => (by cases e), fun t e => (by cases e), fun t e => (by cases e), by decide⟩ (Blk.new w _ _)
  first | exact ⟨rfl, h1, below_alloc_ _ _⟩ | exact ⟨h1, below_alloc_ _ _⟩
theorem differ_any (a b : D.Ky) (w : World) : Calls Try.prog 22 #[.agg (kS.v a), .agg (kS.v b)] w fun e w' => e = .returned (.int .i64 (if Cr.par a b < 200 then (Cr.par a b : Nat) else -1)) ∧ Below w.heap.size w w' := by
  have C := Lib.hid (parting_any a b)
  have hl := Cr.par_le a b
  obtain ⟨r, hr⟩ : ∃ r, Cr.par a b = r := ⟨_, rfl⟩
  rw [hr] at C hl ⊢
  clear hr
  have b0 : Below w.heap.size w ((w.alloc (.cells (kS.v a) 30)).alloc (.cells (kS.v b) 30)) := (below_alloc_ _ _).alloc (by simp) _
  have hz : w.heap.size ≤ ((w.alloc (.cells (kS.v a) 30)).alloc (.cells (kS.v b) 30)).heap.size := b0.size
  by_cases h : r = 200
  · subst h
    rw [if_neg (by omega)]
    go_enter Try.func22, Try.ntmps22
    go_wp2_with (go_at_call 40; (with_reducible refine (C.out _).mono ?_); rintro e w1 ⟨rfl, b1⟩; have z1 := below_up b0 hz b1)
    go_ret
    exact ⟨rfl, z1⟩
  · rw [if_pos (by omega)]
    have h1 : ¬ ((r : Int) = 200) := by omega
    go_enter Try.func22, Try.ntmps22
    go_wp2_with (go_at_call 40; (with_reducible refine (C.out _).mono ?_); rintro e w1 ⟨rfl, b1⟩; have z1 := below_up b0 hz b1)
    go_ret
    exact ⟨rfl, z1⟩
end Go.Proofs.Ytkhjnfplcaffnaa
