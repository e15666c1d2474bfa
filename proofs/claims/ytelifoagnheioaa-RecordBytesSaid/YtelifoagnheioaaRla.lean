/-
  The law on unlike records.
-/
import Derived.Test.YtelifoagnheioaaRkn
set_option linter.unusedVariables false
set_option linter.unusedSimpArgs false
set_option maxRecDepth 100000
namespace Go.Proofs.Ytelifoagnheioaa
open Go.RowKit
attribute [local go_sem ↓] Go.wp_at_zero Go.wp_at_succ ld_r st_r bd_r ne_r bs_r eq_r
attribute [local go_sem] run_ldr run_str run_bdr1 run_bdr0 run_bsr1 run_ner run_eqr Shp.rd_new Shp.rd_old Shp.tn_new Shp.tn_old setRow_alloc setRow_alloc2

/-- A record whose text has at most 80 bytes. -/
def D.cutR (r : D.Rc) : D.Rc := { r with t := r.t.extract 0 (min r.t.size 80) }
theorem D.cutR_wf {r : D.Rc} (h : r.wf) : (D.cutR r).wf := ⟨h.k, h.s, h.u, h.p, h.m, h.v, h.a⟩
theorem rv_8 (r : D.Rc) : (rS.v r)[8]? = some (.string r.t) := rfl
theorem rv_set8 (r : D.Rc) (x : ByteArray) : (rS.v r).setIfInBounds 8 (.string x) = rS.v { r with t := x } := rfl
attribute [local go_sem] rv_8 rv_set8
set_option maxHeartbeats 4000000 in
theorem cut_any (r : D.Rc) (w : World) (hm : r.t.size ≤ 9223372036854775807) :
    Calls Try.prog 7 #[.agg (rS.v r)] w fun en w' => en = .returned (.agg (rS.v (D.cutR r))) ∧ Below w.heap.size w w' := by
  have P0 := Lib.hid (RB.new w w.heap.size r rfl)
  by_cases h80 : r.t.size ≤ 80
  · have hc : Kept (D.cutR r = { r with t := r.t }) := ⟨by
      unfold D.cutR
      rw [Nat.min_eq_left h80]
      have : r.t.extract 0 r.t.size = r.t := ByteArray.extract_zero_size
      rw [this]⟩
    have i1 : (r.t.size : Int) ≤ 80 := by omega
    go_enter Try.func7, Try.ntmps7
    go_wp2
    refine bodyPost_ret (v := .agg (rS.v { r with t := r.t })) (by rw [results_cell1 rfl]; simp [asAddr, Result.andThen, lvr_of (Shp.rd_new (S := rS) (w.alloc (.cells (rS.v { r with t := r.t }) 28)) (w.heap.size + 1) 28 { r with t := r.t } (by simp))]) rfl ⟨by rw [hc.out], ((Below.refl _ _).alloc (Nat.le_refl _) _).alloc (by simp) _⟩
  · have hc : Kept (D.cutR r = { r with t := r.t.extract 0 80 }) := ⟨by
      unfold D.cutR
      rw [Nat.min_eq_right (by omega)]⟩
    have i1 : (80 : Int) < (r.t.size : Int) := by omega
    go_enter Try.func7, Try.ntmps7
    go_wp2
    refine bodyPost_ret (v := .agg (rS.v { r with t := r.t.extract 0 80 })) (by rw [results_cell1 rfl]; simp [asAddr, Result.andThen, lvr_of (Shp.rd_new (S := rS) (w.alloc (.cells (rS.v { r with t := r.t.extract 0 80 }) 28)) (w.heap.size + 1) 28 { r with t := r.t.extract 0 80 } (by simp))]) rfl ⟨by rw [hc.out], ((Below.refl _ _).alloc (Nat.le_refl _) _).alloc (by simp) _⟩
end Go.Proofs.Ytelifoagnheioaa
