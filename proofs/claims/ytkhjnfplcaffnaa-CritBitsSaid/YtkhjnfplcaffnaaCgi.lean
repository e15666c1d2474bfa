/-
  Append within a round.
-/
import Derived.Test.YtkhjnfplcaffnaaCni
set_option linter.unusedVariables false
set_option linter.unusedSimpArgs false
set_option maxRecDepth 100000
namespace Go.Proofs.Ytkhjnfplcaffnaa
open Go.RowKit Go.Shelf
attribute [local go_sem] Oper.semAt_some
attribute [local go_sem ↓] Go.wp_at_zero Go.wp_at_succ ld_k lv_k st_k eq_k ne_k bd_k ld_b lv_b st_b eq_b ne_b bd_25 ld_r lv_r st_rk eq_rk ne_rk bd_r ld_p lv_p st_px bd_p Nm.ld_a Nm.ld_n Nm.st_a Nm.st_n Nm.eq_a Nm.eq_n Nm.ne_a Nm.ne_n Nm.lv_a Nm.lv_n ld_a ld_n st_a st_n eq_a eq_n ne_a ne_n lv_a lv_n ld_l lv_l st_l bd_l bd_n bs_l bs_k
attribute [local go_sem] run_ldk run_lvk run_stk run_eqk run_nek run_bdk_z run_ldb run_lvb run_stb run_eqb run_neb run_ldr run_lvr run_strk run_eqrk run_nerk run_bdr_z run_ldp run_lvp run_stpx Nm.run_ld_a Nm.run_ld_n Nm.run_st_n Nm.run_eq_a Nm.run_eq_n Nm.run_ne_a Nm.run_ne_n Nm.run_lv_a Nm.run_lv_n Nm.rd_new Nm.rd_old Nm.rd_drew Nm.rd_drewN run_ld_a run_ld_n run_sw_a run_sw_n run_eq_a run_eq_n run_ne_a run_ne_n run_lv_a run_lv_n st_z ne_z eq_z rd_new rd_old rd_drew rd_drewN Shp.rd_new Shp.rd_old Shp.rd_drew Shp.rd_drewN Shp.rd_set Shp.tn_new Shp.tn_old Shp.tn_drew Shp.tn_drewN tn_new tn_old tn_drew tn_drewN rd_set setRow_alloc run_stn3 run_stt15 run_lvl run_ldl run_stl run_bdl run_bdn run_bdn0 run_bsl run_bsk Shp.rd_extk cell_ext
theorem ow_cells {T : TypeId} {sz base n c : Nat} {w : World} {A : Option Addr} {xs : List Value} (h : Ow T sz base w A n c xs) : ∀ (j : Nat) (o : Obj), (Value.slice A n c).ownBlock = some j → w.heap[j]? = some o → o.isCells = true ∧ o.isWalk = false := by
  intro j o hg hj
  rcases h.row.2 with ⟨e2, _⟩ | ⟨g2, cap, cur, e2, _, hh, _⟩
  · rw [e2] at hg; cases hg
  · rw [e2] at hg
    injection hg with hg
    subst hg
    rw [hh] at hj
    injection hj with hj
    subst hj
    exact ⟨rfl, rfl⟩
theorem gappIn {F : Fence} {nF : Nat} {ST T : TypeId} {z : Value} {sz by_ : Nat} (w : World) (hu : Try.prog.underlying ST = some (.slice T)) (hi : (Try.prog.info? T).map (fun i => (i.zero, i.size, i.bytes)) = some (some z, sz, by_)) (hz : z.cells.size = sz) (hs : 0 < sz) (hby : by_ ≤ 1000)
    {ops : Array Oper} {rest : List Oper} {o : Oper} {a : Act} {Q : Exit → Act → World → Prop} (hgd : o.guard = none) (s x : Operand)
    (hop : o.op = .call { callee := .builtin .append, args := #[s, x], argTypes := #[ST, ST] })
    {base : Nat} {A B : Option Addr} {n c m d : Nat} {l k : List Value} (hes : a.eval s = .slice A n c) (ho : Ow T sz base w A n c l) (hx : a.eval x = .slice B m d) (hr : Rw sz w B m k) (h1 : ∀ u ∈ k, u.oneCell' = true) (h63 : n + m ≤ 1000000)
    (h : ∀ A' c' w', Ow T sz base w' A' (n + m) c' (l ++ k) → w.grownBy w' (Value.slice A n c).ownBlock → wpListIn F nF Try.prog ops Q rest (a.put o.dst (.slice A' (n + m) c')) w') : wpListIn F nF Try.prog ops Q (o :: rest) a w := by
  obtain ⟨A', c', w', hrun, h2, h3, h4⟩ := run_gapp w hu hi hz hs o.type ho hr h1 h63 hby (d := d)
  refine wpListIn_plain hgd fun K hK => ?_
  unfold Oper.wpIn
  refine ⟨?_, ?_⟩
  · simp [Oper.about, hop, resolve, Target.leads, Sem.run_pure]
  · rw [Oper.semAt_plain F _ _ (by rw [hop]; intro c hc'; cases hc')]
    simp [execOp, hop, resolve, invoke, builtin, hes, hx, hrun, Result.andThen]
    exact hK _ _ (h A' c' w' h2 h3)
theorem key_under : Try.prog.underlying 55 = some (.slice 30) := by kernel_rfl
theorem key_info : (Try.prog.info? 30).map (fun i => (i.zero, i.size, i.bytes)) = some (some (.agg (kS.v D.zK)), 25, 25) := by kernel_rfl
theorem leaf_under : Try.prog.underlying 114 = some (.slice 81) := by kernel_rfl
theorem leaf_info : (Try.prog.info? 81).map (fun i => (i.zero, i.size, i.bytes)) = some (some (.agg (lS.v (D.zK, 0))), 26, 40) := by kernel_rfl
theorem rw_shp {α : Type} (S : Shp α) (w : World) (x : α) (T : TypeId) (g : Nat) (hg : g = w.heap.size) : Rw S.n (w.alloc (.cells (S.v x) T)) (some ⟨g, 0, none⟩) 1 (S.cs x) := by
  subst hg
  have := rw_new w S.n T 1 (S.v x) (by rw [Shp.v_size]; omega)
  simpa [Shp.v] using this
theorem ow_own {base B n : Nat} {T : TypeId} {sz : Nat} {W W' : World} {A : Option Addr} {c : Nat} {xs : List Value} {row : Option Nat} (h : Ow T sz base W A n c xs) (hg : W.grownBy W' row) (hr : ∀ r, row = some r → B ≤ r ∧ ∃ o : Obj, W.heap[r]? = some o ∧ o.isCells = false) : Ow T sz base W' A n c xs :=
  h.kept hg.size fun g e => hg.block g (h.lt g e).2 (fun e' => by
    obtain ⟨_, o, ho, hc⟩ := hr g e'.symm
    have := (ow_cells h g o e ho).1
    rw [hc] at this; cases this)
end Go.Proofs.Ytkhjnfplcaffnaa
