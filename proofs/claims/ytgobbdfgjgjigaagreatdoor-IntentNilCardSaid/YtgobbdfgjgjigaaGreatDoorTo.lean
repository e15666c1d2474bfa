/-
  The law's To and raw: a tag's ten bytes, one by one.
-/
import Derived.Test.YtgobbdfgjgjigaaGreatDoorRby
set_option linter.unusedVariables false
set_option linter.unusedSimpArgs false
namespace Go.Proofs.YtgobbdfgjgjigaaGreatDoor
open Go.RowKit
attribute [local go_sem ↓] Go.wp_at_zero Go.wp_at_succ ld_a ld_n st_a st_n eq_a eq_n ne_a ne_n lv_a lv_n lp_3 lp_4
attribute [local go_sem] run_ld_a run_ld_n run_sw_a run_sw_n run_eq_a run_eq_n run_ne_a run_ne_n run_lv_a run_lv_n st_z ne_z rd_new rd_old rd_drew rd_drewN rd_set tn_new tn_old tn_drew tn_drewN setRow_alloc run_lp_3 run_lp_4

theorem lv_of_n {w : World} {a : Addr} {x : D.Tg} (h : rd w a = some x) : (loadVar 28 a).run Tryz.prog w = .ok (.agg (nc x)) w := (run_lv_n w a).trans (by rw [h]; rfl)
end Go.Proofs.YtgobbdfgjgjigaaGreatDoor
