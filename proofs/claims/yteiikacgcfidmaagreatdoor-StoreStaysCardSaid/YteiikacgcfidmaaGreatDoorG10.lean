/-
  The program's Of, Right, upTo, end.
  The document's Bytes.
  The law's To and raw: a tag's ten bytes, one by one.
-/
import Derived.Test.YteiikacgcfidmaaGreatDoorG08
import Derived.Test.YteiikacgcfidmaaGreatDoorG09
import Derived.Deep.DrawnRows
import Derived.Laws.CopyOwn
import Derived.Laws.ResultCell
set_option linter.unusedVariables false
set_option linter.unusedSimpArgs false
set_option maxRecDepth 100000
namespace Go.Proofs.YteiikacgcfidmaaGreatDoor
open Go.RowKit
attribute [local go_sem ↓] Go.wp_at_zero Go.wp_at_succ ld_k lv_k st_k eq_k ne_k bd_k ld_b lv_b st_b eq_b ne_b bd_25 ld_r lv_r st_rk eq_rk ne_rk bd_r ld_p lv_p st_px bd_p Nm.ld_a Nm.ld_n Nm.st_a Nm.st_n Nm.eq_a Nm.eq_n Nm.ne_a Nm.ne_n Nm.lv_a Nm.lv_n ld_a ld_n st_a st_n eq_a eq_n ne_a ne_n lv_a lv_n
attribute [local go_sem] run_ldk run_lvk run_stk run_eqk run_nek run_bdk_z run_ldb run_lvb run_stb run_eqb run_neb run_ldr run_lvr run_strk run_eqrk run_nerk run_bdr_z run_ldp run_lvp run_stpx Nm.run_ld_a Nm.run_ld_n Nm.run_st_n Nm.run_eq_a Nm.run_eq_n Nm.run_ne_a Nm.run_ne_n Nm.run_lv_a Nm.run_lv_n Nm.rd_new Nm.rd_old Nm.rd_drew Nm.rd_drewN run_ld_a run_ld_n run_sw_a run_sw_n run_eq_a run_eq_n run_ne_a run_ne_n run_lv_a run_lv_n st_z ne_z eq_z rd_new rd_old rd_drew rd_drewN Shp.rd_new Shp.rd_old Shp.rd_drew Shp.rd_drewN Shp.rd_set Shp.tn_new Shp.tn_old Shp.tn_drew Shp.tn_drewN setRow_alloc run_stn3 run_stt15 bdk1 bdk2 bdk3 bdk4


set_option maxHeartbeats 4000000 in
theorem upto_any (x : D.Ky) (d : Int) (w : World) : Calls Tryz.prog 130 #[.agg (kS.v x), .int .i64 d] w fun e w' => e = .returned (.agg (kS.v (D.upto x d))) ∧ Below w.heap.size w w' := by
  obtain ⟨W0, hW0⟩ : ∃ W, (w.alloc (.cells (kS.v x) 39)).alloc (.cells z25 39) = W := ⟨_, rfl⟩
  have f0 : kS.rd W0 ⟨w.heap.size, 0, none⟩ = some x := by rw [← hW0]; exact Shp.rd_on (Shp.rd_new (S := kS) w _ _ x rfl) (below_alloc_ _ _)
  have k0 : Shp.tn 25 W0 (w.heap.size + 1) = true := by rw [← hW0]; exact Shp.tn_new _ _ _ _ _ (by simp) rfl
  have z0 : Below w.heap.size w W0 := by rw [← hW0]; exact (below_alloc_ _ _).alloc (by simp) _
  unfold z25 at hW0
  obtain ⟨c0, c1, c2, c3, c4⟩ := kf0 f0
  by_cases h0 : d = 0
  · subst h0
    go_enter Tryz.func130, Tryz.ntmps130
    go_wp2
    exact bodyPost_ret (v := .agg (kS.v D.zK)) (by rw [Nm.results_cell1 rfl]; simp [asAddr, Result.andThen, lvk_of (Shp.rd_set (S := kS) W0 (w.heap.size + 1) D.zK k0)]) rfl ⟨by rfl, below_setRow z0 (Nat.le_succ _) _⟩
  by_cases h1 : d = 1
  · subst h1
    go_enter Tryz.func130, Tryz.ntmps130
    go_wp2
    exact bodyPost_ret (v := .agg (kS.v (D.mkK x.k 0 0 Nm.D.zero D.zero))) (by rw [Nm.results_cell1 rfl]; simp [asAddr, Result.andThen, lvk_of (Shp.rd_set (S := kS) W0 (w.heap.size + 1) (D.mkK x.k 0 0 Nm.D.zero D.zero) k0)]) rfl ⟨by rfl, below_setRow z0 (Nat.le_succ _) _⟩
  by_cases h2 : d = 2
  · subst h2
    go_enter Tryz.func130, Tryz.ntmps130
    go_wp2
    exact bodyPost_ret (v := .agg (kS.v (D.mkK x.k x.p 0 Nm.D.zero D.zero))) (by rw [Nm.results_cell1 rfl]; simp [asAddr, Result.andThen, lvk_of (Shp.rd_set (S := kS) W0 (w.heap.size + 1) (D.mkK x.k x.p 0 Nm.D.zero D.zero) k0)]) rfl ⟨by rfl, below_setRow z0 (Nat.le_succ _) _⟩
  by_cases h3 : d = 3
  · subst h3
    go_enter Tryz.func130, Tryz.ntmps130
    go_wp2
    exact bodyPost_ret (v := .agg (kS.v (D.mkK x.k x.p x.a Nm.D.zero D.zero))) (by rw [Nm.results_cell1 rfl]; simp [asAddr, Result.andThen, lvk_of (Shp.rd_set (S := kS) W0 (w.heap.size + 1) (D.mkK x.k x.p x.a Nm.D.zero D.zero) k0)]) rfl ⟨by rfl, below_setRow z0 (Nat.le_succ _) _⟩
  by_cases h4 : d = 4
  · subst h4
    go_enter Tryz.func130, Tryz.ntmps130
    go_wp2
    exact bodyPost_ret (v := .agg (kS.v (D.mkK x.k x.p x.a x.n D.zero))) (by rw [Nm.results_cell1 rfl]; simp [asAddr, Result.andThen, lvk_of (Shp.rd_set (S := kS) W0 (w.heap.size + 1) (D.mkK x.k x.p x.a x.n D.zero) k0)]) rfl ⟨by rfl, below_setRow z0 (Nat.le_succ _) _⟩
  rw [show D.upto x d = x by unfold D.upto; rw [if_neg h0, if_neg h1, if_neg h2, if_neg h3, if_neg h4]]
  go_enter Tryz.func130, Tryz.ntmps130
  go_wp2
  exact bodyPost_ret (v := .agg (kS.v x)) (by rw [Nm.results_cell1 rfl]; simp [asAddr, Result.andThen, lvk_of (Shp.rd_set (S := kS) W0 (w.heap.size + 1) x k0)]) rfl ⟨by rfl, below_setRow z0 (Nat.le_succ _) _⟩

theorem end_any (d : Int) (w : World) : Calls Tryz.prog 129 #[.int .i64 d] w fun e w' => e = .returned (.int .i64 (D.ends d : Int)) ∧ w = w' := by
  by_cases h1 : d = 1
  · subst h1
    go_enter Tryz.func129, Tryz.ntmps129
    go_wp2
    go_ret
    exact ⟨by rfl, by rfl⟩
  by_cases h2 : d = 2
  · subst h2
    go_enter Tryz.func129, Tryz.ntmps129
    go_wp2
    go_ret
    exact ⟨by rfl, by rfl⟩
  by_cases h3 : d = 3
  · subst h3
    go_enter Tryz.func129, Tryz.ntmps129
    go_wp2
    go_ret
    exact ⟨by rfl, by rfl⟩
  by_cases h4 : d = 4
  · subst h4
    go_enter Tryz.func129, Tryz.ntmps129
    go_wp2
    go_ret
    exact ⟨by rfl, by rfl⟩
  by_cases h5 : d = 5
  · subst h5
    go_enter Tryz.func129, Tryz.ntmps129
    go_wp2
    go_ret
    exact ⟨by rfl, by rfl⟩
  rw [show D.ends d = 0 by unfold D.ends; rw [if_neg h1, if_neg h2, if_neg h3, if_neg h4, if_neg h5]]
  go_enter Tryz.func129, Tryz.ntmps129
  go_wp2
  go_ret
  exact ⟨by rfl, by rfl⟩

end Go.Proofs.YteiikacgcfidmaaGreatDoor
set_option linter.unusedVariables false
set_option linter.unusedSimpArgs false
namespace Go.Proofs.YteiikacgcfidmaaGreatDoor
open Go.RowKit
attribute [local go_sem ↓] Go.wp_at_zero Go.wp_at_succ ld_a ld_n st_a st_n eq_a eq_n ne_a ne_n lv_a lv_n lp_3 lp_4
attribute [local go_sem] run_ld_a run_ld_n run_sw_a run_sw_n run_eq_a run_eq_n run_ne_a run_ne_n run_lv_a run_lv_n st_z ne_z rd_new rd_old rd_drew rd_drewN rd_set tn_new tn_old tn_drew tn_drewN setRow_alloc run_lp_3 run_lp_4

theorem cell_keep {w w1 : World} {p : Addr} {v : Value} (hb : Below w.heap.size w w1) (hc : w.cell? p = some v) : w1.cell? p = some v := (hb.cell (World.block_lt_of_cell? w p hc)).trans hc
theorem Own.far {base n c : Nat} {w : World} {A : Option Addr} {l : List Nat} (h : Own base w A n c l) {p : Addr} (hp : p.block < base) (u : Value) : Own base (w.setCell p u) A n c l := by
  refine ⟨⟨h.row.1, ?_⟩, by have := h.base; simpa [World.setCell] using this⟩
  rcases h.row.2 with hz | ⟨g, cap, cur, e, hg, hh, r⟩
  · exact .inl hz
  · exact .inr ⟨g, cap, cur, e, hg, (Below.heap_setCell w p u g (by omega)).trans hh, r⟩
theorem below_on {base : Nat} {w0 w w' : World} (h : Below base w0 w) (hle : base ≤ w.heap.size) (hb : Below w.heap.size w w') : Below base w0 w' := h.trans (hb.mono hle)
theorem results_cell1 {fn : Func} {p : Tmp} {ty : TypeId} (h : fn.results = #[.cell p ty]) (tmps : Array Value) (P : Program) (w : World) :
    (results fn tmps).run P w = ((asAddr (tmps.getD p undef)).run P w).andThen fun a w₁ => (loadVar ty a).run P w₁ := by
  simp only [results, h]
  simp [Sem.run_bind, Result.andThen]
theorem lv_of_a {w : World} {a : Addr} {x : D.Tg} (h : rd w a = some x) : (loadVar 84 a).run Tryz.prog w = .ok (.agg (nc x)) w := (run_lv_a w a).trans (by rw [h]; rfl)
theorem pk_nc {x : D.Tg} : pk x.l 10 10 = nc x := by
  rw [pk_end (.inl x.len.symm) (by rw [x.len]; exact Nat.le_refl _), nc]
  congr 2
  unfold D.padn
  rw [List.take_append_of_le_length (by rw [x.len]; exact Nat.le_refl _), List.take_of_length_le (by rw [x.len]; exact Nat.le_refl _)]
end Go.Proofs.YteiikacgcfidmaaGreatDoor
set_option linter.unusedVariables false
set_option linter.unusedSimpArgs false
namespace Go.Proofs.YteiikacgcfidmaaGreatDoor
open Go.RowKit
attribute [local go_sem ↓] Go.wp_at_zero Go.wp_at_succ ld_a ld_n st_a st_n eq_a eq_n ne_a ne_n lv_a lv_n lp_3 lp_4
attribute [local go_sem] run_ld_a run_ld_n run_sw_a run_sw_n run_eq_a run_eq_n run_ne_a run_ne_n run_lv_a run_lv_n st_z ne_z rd_new rd_old rd_drew rd_drewN rd_set tn_new tn_old tn_drew tn_drewN setRow_alloc run_lp_3 run_lp_4

theorem lv_of_n {w : World} {a : Addr} {x : D.Tg} (h : rd w a = some x) : (loadVar 37 a).run Tryz.prog w = .ok (.agg (nc x)) w := (run_lv_n w a).trans (by rw [h]; rfl)
end Go.Proofs.YteiikacgcfidmaaGreatDoor
