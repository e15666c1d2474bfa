/-
  The document's Bytes.
-/
import Derived.Test.YtgobbdfgjgjigaaGreatDoorKwd
import Derived.Laws.CopyOwn
import Derived.Deep.DrawnRows
import Derived.Test.YtgobbdfgjgjigaaGreatDoorAExt
import Derived.Test.YtgobbdfgjgjigaaGreatDoorStep
set_option linter.unusedVariables false
set_option linter.unusedSimpArgs false
namespace Go.Proofs.YtgobbdfgjgjigaaGreatDoor
open Go.RowKit
attribute [local go_sem ↓] Go.wp_at_zero Go.wp_at_succ ld_a ld_n st_a st_n eq_a eq_n ne_a ne_n lv_a lv_n lp_3 lp_4
attribute [local go_sem] run_ld_a run_ld_n run_sw_a run_sw_n run_eq_a run_eq_n run_ne_a run_ne_n run_lv_a run_lv_n st_z ne_z rd_new rd_old rd_drew rd_drewN rd_set tn_new tn_old tn_drew tn_drewN setRow_alloc run_lp_3 run_lp_4

theorem cell_keep {w w1 : World} {p : Addr} {v : Value} (hb : Below w.heap.size w w1) (hc : w.cell? p = some v) : w1.cell? p = some v := (hb.cell (World.block_lt_of_cell? w p hc)).trans hc
theorem Own.far {base n c : Nat} {w : World} {A : Option Addr} {l : List Nat} (h : Own base w A n c l) {p : Addr} (hp : p.block < base) (u : Value) : Own base (w.setCell p u) A n c l := by
  refine ⟨⟨h.row.1, ?_⟩, by have := h.base; simpa [World.setCell] using this⟩
  rcases h.row.2 with hz | ⟨g, cap, cur, e, hg, hh, r⟩
  · exact .inl hz
  · exact .inr ⟨g, cap, cur, e, hg, (Below.heap_setCell w p u g (by omega)).trans hh, r⟩
theorem below_on {base : Nat} {w0 w w' : World} (h : Below base w0 w) (hle : base ≤ w.heap.size) (hb : Below w.heap.size w w') : Below base w0 w' := h.trans (hb.mono hle)
end Go.Proofs.YtgobbdfgjgjigaaGreatDoor
