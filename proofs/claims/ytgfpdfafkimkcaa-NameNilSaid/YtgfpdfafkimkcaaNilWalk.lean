/-
  The law of the nil set: its walk.
-/
import Derived.Test.YtgfpdfafkimkcaaKnown
set_option linter.unusedVariables false
set_option linter.unusedSimpArgs false
namespace Go.Proofs.Ytgfpdfafkimkcaa
open Go.RowKit Go.Sort
attribute [local go_sem ↓] Go.wp_at_zero Go.wp_at_succ ld_a ld_n st_a st_n eq_a eq_n ne_a ne_n bsl_a bsl_n lv_a lv_n
attribute [local go_sem] run_ld_a run_ld_n run_st_n run_eq_a run_eq_n run_ne_a run_ne_n run_bsl1_a run_bsl1_n run_bsl2 run_lv_a run_lv_n st_z ne_z rd_new rd_old rd_drew rd_drewN rd_ext

set_option maxRecDepth 20000 in
set_option maxHeartbeats 1000000 in
theorem nil_all (x : D.Nm) (w : World) : Calls Try.prog 8 #[.agg (nc x)] w fun e w' => e = .returned (.bool true) ∧ Below w.heap.size w w' := by
  have z0 := (from_self w).alloc (.cells (nc x) 23)
  have f0 := rd_new w _ 23 x rfl
  go_enter Try.func8, Try.ntmps8
  go_wp2_with (first
    | (go_at_call 15; (with_reducible refine (known_any _).mono ?_); rintro e w1 ⟨rfl, b1⟩; have z1 := z0.on b1; have f1 := rd_on f0 b1; have s1 : w.heap.size < w1.heap.size := ((from_self _).on b1).lt (by simp))
    | (go_at_call 24; (with_reducible refine (add_nil _ _ _ _).mono ?_); rintro e w2 ⟨rfl, rfl⟩)
    | (go_at_call 23; (with_reducible refine (del_nil _ _ _ _).mono ?_); rintro e w3 ⟨rfl, rfl⟩)
    | (go_at_call 27; (with_reducible refine (has_nil _ _).mono ?_); rintro e w4 ⟨rfl, b4⟩; have z4 := ((z1.alloc _).alloc _).on b4)
    | (go_at_call 25; (with_reducible refine (list_nil _).mono ?_); rintro e w5 ⟨rfl, rfl⟩)
    | (go_at_call 26; (with_reducible refine (len_nil _).mono ?_); rintro e w6 ⟨rfl, rfl⟩))
  go_ret
  exact ⟨rfl, z4.below⟩
end Go.Proofs.Ytgfpdfafkimkcaa
