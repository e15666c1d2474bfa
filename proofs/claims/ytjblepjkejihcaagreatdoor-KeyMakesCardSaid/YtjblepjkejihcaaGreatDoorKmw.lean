/-
  The key of parts: the law's walk.
-/
import Derived.Test.YtjblepjkejihcaaGreatDoorKro
import Derived.Test.YtjblepjkejihcaaGreatDoorGh
set_option linter.unusedVariables false
set_option linter.unusedSimpArgs false
set_option maxRecDepth 100000
namespace Go.Proofs.YtjblepjkejihcaaGreatDoor
open Go.RowKit
theorem run_bdk_nt (w : World) (n : Nm.D.Nm) (t : D.Tg) : (bdk #[(3, .agg (Nm.nc n)), (4, .agg (nc t))]).run Tryz.prog w = .ok (.agg (kS.v (D.mkK 0 0 0 n t))) w := by
  rw [kv_mk _ _ (by decide) (by decide) (by decide)]
  obtain ⟨b0, b1, b2, b3, b4, b5, b6, b7, b8, b9, b10, b11, hn⟩ := Nm.twelve n
  have e1 : bys n.l = [b0, b1, b2, b3, b4, b5, b6, b7, b8, b9, b10, b11] := by simpa [Nm.nc] using congrArg Array.toList hn
  obtain ⟨c0, c1, c2, c3, c4, c5, c6, c7, c8, c9, ht⟩ := ten t
  have e2 : bys t.l = [c0, c1, c2, c3, c4, c5, c6, c7, c8, c9] := by simpa [nc] using congrArg Array.toList ht
  rw [hn, ht, e1, e2]
  simp [bdk, Instr.build, go_sem]
attribute [local go_sem ↓] Go.wp_at_zero Go.wp_at_succ ld_k lv_k st_k eq_k ne_k bd_k ld_b lv_b st_b eq_b ne_b bd_25 ld_r lv_r st_rk eq_rk ne_rk bd_r ld_p lv_p st_px bd_p Nm.ld_a Nm.ld_n Nm.st_a Nm.st_n Nm.eq_a Nm.eq_n Nm.ne_a Nm.ne_n Nm.lv_a Nm.lv_n ld_a ld_n st_a st_n eq_a eq_n ne_a ne_n lv_a lv_n
attribute [local go_sem] run_ldk run_lvk run_stk run_eqk run_nek run_bdk_z run_ldb run_lvb run_stb run_eqb run_neb run_ldr run_lvr run_strk run_eqrk run_nerk run_bdr_z run_ldp run_lvp run_stpx Nm.run_ld_a Nm.run_ld_n Nm.run_st_n Nm.run_eq_a Nm.run_eq_n Nm.run_ne_a Nm.run_ne_n Nm.run_lv_a Nm.run_lv_n Nm.rd_new Nm.rd_old Nm.rd_drew Nm.rd_drewN run_ld_a run_ld_n run_sw_a run_sw_n run_eq_a run_eq_n run_ne_a run_ne_n run_lv_a run_lv_n st_z ne_z eq_z rd_new rd_old rd_drew rd_drewN Shp.rd_new Shp.rd_old Shp.rd_drew Shp.rd_drewN Shp.rd_set Shp.tn_new Shp.tn_old Shp.tn_drew Shp.tn_drewN tn_new tn_old tn_drew tn_drewN rd_set setRow_alloc run_stn3 run_stt15 run_bdk_nt Shp.rd_ext_ cell_ext rd_ext Nm.rd_ext_

theorem kof_rkof {x : D.Rk} : (D.rkof x).2 = (D.kof x.k x.p x.a x.n x.t).2 ∧ ((D.rkof x).2 = 0 → D.rkof x = (D.mkR x, 0) ∧ D.kof x.k x.p x.a x.n x.t = (D.mkI x.k x.p x.a x.n x.t, 0) ∧ D.toR (D.mkI x.k x.p x.a x.n x.t) = D.mkR x ∧ D.kright (D.mkI x.k x.p x.a x.n x.t) = true) ∧ ((D.rkof x).2 ≠ 0 → (D.kof x.k x.p x.a x.n x.t).1 = D.zK) := by
  unfold D.rkof D.kof
  by_cases h : D.rerr x = 0
  · have h' : D.err x.k x.p x.a x.n x.t = 0 := h
    rw [if_pos h, if_pos h']
    exact ⟨rfl, fun _ => ⟨rfl, rfl, D.toR_mkI h, D.mkI_right h'⟩, fun hn => absurd rfl hn⟩
  · have h' : ¬ D.err x.k x.p x.a x.n x.t = 0 := h
    rw [if_neg h, if_neg h']
    exact ⟨rfl, fun h0 => absurd h0 h, fun _ => rfl⟩
theorem rset0 (x : D.Rk) (k : Int) (hk : -9223372036854775808 ≤ k ∧ k ≤ 9223372036854775807) : (rS.v x).setIfInBounds 0 (.int .i64 k) = rS.v ⟨k, x.p, x.a, x.n, x.t, hk, x.hp, x.ha⟩ := by
  show Array.setIfInBounds (rcells x).toArray 0 _ = _
  simp [rcells, Shp.v, rS]
theorem rset1 (x : D.Rk) (k : Int) (hk : -9223372036854775808 ≤ k ∧ k ≤ 9223372036854775807) : (rS.v x).setIfInBounds 1 (.int .i64 k) = rS.v ⟨x.k, k, x.a, x.n, x.t, x.hk, hk, x.ha⟩ := by
  show Array.setIfInBounds (rcells x).toArray 1 _ = _
  simp [rcells, Shp.v, rS]
theorem rset2 (x : D.Rk) (k : Int) (hk : -9223372036854775808 ≤ k ∧ k ≤ 9223372036854775807) : (rS.v x).setIfInBounds 2 (.int .i64 k) = rS.v ⟨x.k, x.p, k, x.n, x.t, x.hk, x.hp, hk⟩ := by
  show Array.setIfInBounds (rcells x).toArray 2 _ = _
  simp [rcells, Shp.v, rS]
theorem ksm_self (x : D.Ky) : kS.sm x x = true := by rw [kS_sm]; simp
theorem rsm_self (x : D.Rk) : rS.sm x x = true := by rw [rS_sm]; simp
set_option maxHeartbeats 8000000 in
theorem makes_all (k p a : Int) (n : Nm.D.Nm) (t : D.Tg) (w : World) (hk : -9223372036854775808 ≤ k ∧ k ≤ 9223372036854775807) (hp : -9223372036854775808 ≤ p ∧ p ≤ 9223372036854775807) (ha : -9223372036854775808 ≤ a ∧ a ≤ 9223372036854775807) (hE : Env w) :
    Calls Tryz.prog 3 #[.int .i64 k, .int .i64 p, .int .i64 a, .agg (Nm.nc n), .agg (nc t)] w fun e w' => e = .returned (.bool true) ∧ Below w.heap.size w w' := by
  obtain ⟨W0, hW0⟩ : ∃ W, (w.alloc (.cells (Nm.nc n) 23)).alloc (.cells (nc t) 27) = W := ⟨_, rfl⟩
  have f0 : Nm.rd W0 ⟨w.heap.size, 0, none⟩ = some n := by rw [← hW0]; exact Nm.rd_on (Nm.rd_new w _ _ n rfl) (below_alloc_ _ _)
  have g0 : rd W0 ⟨w.heap.size + 1, 0, none⟩ = some t := by rw [← hW0]; exact rd_new _ _ _ t (by simp)
  have z0 : Below w.heap.size w W0 := by rw [← hW0]; exact (below_alloc_ _ _).alloc (by simp) _
  have E0 : Env W0 := hE.on z0
  obtain ⟨y, hy⟩ : ∃ y, D.mkK 0 0 0 n t = y := ⟨_, rfl⟩
  have hr0 := rset0 (D.toR y) k hk
  have hr1 := rset1 ⟨k, (D.toR y).p, (D.toR y).a, (D.toR y).n, (D.toR y).t, hk, (D.toR y).hp, (D.toR y).ha⟩ p hp
  have hr2 := rset2 ⟨k, p, (D.toR y).a, (D.toR y).n, (D.toR y).t, hk, hp, (D.toR y).ha⟩ a ha
  have hyn : (D.toR y).n = n := by rw [← hy]; exact D.mkK_n
  have hyt : (D.toR y).t = t := by rw [← hy]; exact D.mkK_t
  obtain ⟨x0, hx0⟩ : ∃ x, D.toR y = x := ⟨_, rfl⟩
  obtain ⟨x1, hx1⟩ : ∃ x, (⟨k, (D.toR y).p, (D.toR y).a, (D.toR y).n, (D.toR y).t, hk, (D.toR y).hp, (D.toR y).ha⟩ : D.Rk) = x := ⟨_, rfl⟩
  obtain ⟨x2, hx2⟩ : ∃ x, (⟨k, p, (D.toR y).a, (D.toR y).n, (D.toR y).t, hk, hp, (D.toR y).ha⟩ : D.Rk) = x := ⟨_, rfl⟩
  obtain ⟨x, hx⟩ : ∃ x, (⟨k, p, a, (D.toR y).n, (D.toR y).t, hk, hp, ha⟩ : D.Rk) = x := ⟨_, rfl⟩
  have xk : x.k = k := by rw [← hx]
  have xp : x.p = p := by rw [← hx]
  have xa : x.a = a := by rw [← hx]
  have xn : x.n = n := by rw [← hx]; exact hyn
  have xt : x.t = t := by rw [← hx]; exact hyt
  simp only [hx1] at hr0 hr1
  simp only [hx2] at hr1 hr2
  rw [hx] at hr2
  rw [hx0] at hr0
  have CL := Lib.hid (fun w => (show Calls Tryz.prog 9 #[.agg (kS.v y)] w fun e w' => e = .returned (.agg (rS.v x0)) ∧ Below w.heap.size w w' from by have := lawof_any y w; rwa [hx0] at this))
  have hbd := fun w => run_bdk_nt w n t
  rw [hy] at hbd
  have cO := fun w => keyof_any k p a n t w
  obtain ⟨h1, h2, h3⟩ := kof_rkof (x := x)
  rw [xk, xp, xa, xn, xt] at h1 h2 h3
  have cR := fun w => rkof_any x w
  clear hx hx0 hx1 hx2 hy xk xp xa xn xt hyn hyt hk hp ha
  by_cases h0 : (D.rkof x).2 = 0
  · obtain ⟨e1, e2, e3, e4⟩ := h2 h0
    rw [e1] at cR
    simp only [e2] at cO
    obtain ⟨z, hz⟩ : ∃ z, D.mkI k p a n t = z := ⟨_, rfl⟩
    obtain ⟨v, hv⟩ : ∃ v, D.mkR x = v := ⟨_, rfl⟩
    rw [hz, hv] at e3
    rw [hz] at e4
    simp only [hz] at cO
    simp only [hv] at cR
    have CO := Lib.hid cO
    have CR := Lib.hid cR
    have cV := fun w => lawof_any z w
    rw [e3] at cV
    have CV := Lib.hid cV
    have cG := fun w => keyright_any z w
    rw [e4] at cG
    have CG := Lib.hid cG
    clear cO cR cV cG h1 h2 h3 h0 e1 e2 e3 e4 hz hv
    go_enter Tryz.func3, Tryz.ntmps3
    go_wp2_with fail
    try rw [hW0]
    clear hW0
    go_wp2_with (first
      | (go_at_call 9; (with_reducible refine (CL.out _).mono ?_); rintro e w1 ⟨rfl, b1⟩; have f1 := Nm.rd_on f0 b1; have g1 := rd_on g0 b1; have z1 := below_up z0 z0.size b1)
      | (go_at_call 10; (with_reducible refine (CR.out _).mono ?_); rintro e w2 ⟨rfl, b2⟩; have f2 := Nm.rd_on (Nm.rd_on f1 (below_alloc_ _ (.cells (rS.v x) 30))) b2; have g2 := rd_on (rd_on g1 (below_alloc_ _ (.cells (rS.v x) 30))) b2; have z2 := below_up (z1.alloc z1.size (.cells (rS.v x) 30)) (z1.alloc z1.size (.cells (rS.v x) 30)).size b2; have f2' := Nm.rd_on f2 (below_alloc_ _ (.cells (rS.v v) 30)); have g2' := rd_on g2 (below_alloc_ _ (.cells (rS.v v) 30)); have v2 := Shp.rd_new (S := rS) w2 _ 30 v rfl; have z2' := z2.alloc z2.size (.cells (rS.v v) 30))
      | (go_at_call 11; (with_reducible refine (CO.out _).mono ?_); rintro e w3 ⟨rfl, b3⟩; have v3 := Shp.rd_on v2 b3; have z3 := below_up z2' z2'.size b3; have v4 := Shp.rd_on v3 (below_alloc_ _ (.cells (kS.v z) 33)); have y4 := Shp.rd_new (S := kS) w3 _ 33 z rfl; have z4 := z3.alloc z3.size (.cells (kS.v z) 33)))
    obtain ⟨W4, hW4⟩ : ∃ W, w3.alloc (.cells (kS.v z) 33) = W := ⟨_, rfl⟩
    rw [hW4] at v4 y4 z4
    try rw [hW4]
    clear hW4
    have sv := Shp.rd_lt v4
    have sy := Shp.rd_lt y4
    simp only at sv sy
    have E4 := hE.on z4
    have CK := Lib.hid (fun p => kknown_any (ext W4 p) (E4.on (ext_below W4 p)))
    have hs := rsm_self v
    refine wp_region_ext (by kernel_rfl) (by kernel_rfl) ?_
    repeat (go_big_quiet_step (first
      | (go_at_call 12; with_reducible exact calls_ext (CK.out _))
      | (go_at_call 9; with_reducible exact calls_ext (CV.out _))
      | (go_at_call 13; with_reducible exact calls_ext (CG.out _))))
    refine wpQuiet_nil ?_
    intro w9 hw9
    have b9 := ext_to hw9
    clear hw9
    go_wp2
    go_ret
    exact ⟨by rfl, below_up z4 z4.size b9⟩
  · have e3 := h3 h0
    obtain ⟨⟨v, er⟩, hv⟩ : ∃ v, D.rkof x = v := ⟨_, rfl⟩
    obtain ⟨⟨z, eo⟩, hz⟩ : ∃ z, D.kof k p a n t = z := ⟨_, rfl⟩
    rw [hv] at cR h0 h1
    simp only [hz] at cO h1 e3
    subst e3
    simp only at h1 h0
    subst h1
    simp only at cR
    have CO := Lib.hid cO
    have CR := Lib.hid cR
    have hs := ksm_self D.zK
    clear cO cR h2 h3 hz hv
    go_enter Tryz.func3, Tryz.ntmps3
    go_wp2_with fail
    try rw [hW0]
    clear hW0
    go_wp2_with (first
      | (go_at_call 9; (with_reducible refine (CL.out _).mono ?_); rintro e w1 ⟨rfl, b1⟩; have f1 := Nm.rd_on f0 b1; have g1 := rd_on g0 b1; have z1 := below_up z0 z0.size b1)
      | (go_at_call 10; (with_reducible refine (CR.out _).mono ?_); rintro e w2 ⟨rfl, b2⟩; have f2 := Nm.rd_on (Nm.rd_on f1 (below_alloc_ _ (.cells (rS.v x) 30))) b2; have g2 := rd_on (rd_on g1 (below_alloc_ _ (.cells (rS.v x) 30))) b2; have z2 := below_up (z1.alloc z1.size (.cells (rS.v x) 30)) (z1.alloc z1.size (.cells (rS.v x) 30)).size b2; have f2' := Nm.rd_on f2 (below_alloc_ _ (.cells (rS.v v) 30)); have g2' := rd_on g2 (below_alloc_ _ (.cells (rS.v v) 30)); have z2' := z2.alloc z2.size (.cells (rS.v v) 30))
      | (go_at_call 11; (with_reducible refine (CO.out _).mono ?_); rintro e w3 ⟨rfl, b3⟩; have z3 := below_up z2' z2'.size b3; have y4 := Shp.rd_new (S := kS) w3 _ 33 D.zK rfl; have z4 := z3.alloc z3.size (.cells (kS.v D.zK) 33); have E4 := hE.on z4)
      | (go_at_call 12; (with_reducible refine (kknown_any _ E4).mono ?_); rintro e w5 ⟨rfl, b5⟩; have y5 := Shp.rd_on y4 b5; have z5 := below_up z4 z4.size b5))
    go_ret
    exact ⟨by rfl, z5⟩
end Go.Proofs.YtjblepjkejihcaaGreatDoor
