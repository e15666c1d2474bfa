/-
  Bytes of keys: the law's walk.
-/
import Derived.Test.YtjblepjkejihcaaGreatDoorKrea
import Derived.Test.YtjblepjkejihcaaGreatDoorKrr
import Derived.Test.YtjblepjkejihcaaGreatDoorGh
set_option linter.unusedVariables false
set_option linter.unusedSimpArgs false
set_option maxRecDepth 100000
namespace Go.Proofs.YtjblepjkejihcaaGreatDoor
open Go.RowKit
attribute [local go_sem ↓] Go.wp_at_zero Go.wp_at_succ ld_k lv_k st_k eq_k ne_k bd_k ld_b lv_b st_b eq_b ne_b bd_25 ld_r lv_r st_rk eq_rk ne_rk bd_r ld_p lv_p st_px bd_p Nm.ld_a Nm.ld_n Nm.st_a Nm.st_n Nm.eq_a Nm.eq_n Nm.ne_a Nm.ne_n Nm.lv_a Nm.lv_n ld_a ld_n st_a st_n eq_a eq_n ne_a ne_n lv_a lv_n
attribute [local go_sem] run_ldk run_lvk run_stk run_eqk run_nek run_bdk_z run_ldb run_lvb run_stb run_eqb run_neb run_ldr run_lvr run_strk run_eqrk run_nerk run_bdr_z run_ldp run_lvp run_stpx Nm.run_ld_a Nm.run_ld_n Nm.run_st_n Nm.run_eq_a Nm.run_eq_n Nm.run_ne_a Nm.run_ne_n Nm.run_lv_a Nm.run_lv_n Nm.rd_new Nm.rd_old Nm.rd_drew Nm.rd_drewN run_ld_a run_ld_n run_sw_a run_sw_n run_eq_a run_eq_n run_ne_a run_ne_n run_lv_a run_lv_n st_z ne_z eq_z rd_new rd_old rd_drew rd_drewN Shp.rd_new Shp.rd_old Shp.rd_drew Shp.rd_drewN Shp.rd_set Shp.tn_new Shp.tn_old Shp.tn_drew Shp.tn_drewN tn_new tn_old tn_drew tn_drewN rd_set setRow_alloc run_stn3 run_stt15 Shp.rd_extr cell_ext

theorem kselfb (x : D.Ky) : kS.sm x x = true := by rw [kS_sm]; simp
theorem rselfb (x : D.Rk) : rS.sm x x = true := by rw [rS_sm]; simp

set_option maxHeartbeats 16000000 in
theorem kbytes_rr (k b : D.Ky) (w : World) (hE : Env w) (hk : D.kright k = true) (hb : D.kright b = true) : Calls Tryz.prog 4 #[.agg (kS.v k), .agg (kS.v b)] w fun e w' => e = .returned (.bool true) ∧ Below w.heap.size w w' := by
  have CL := Lib.hid (lawof_any k)
  have CR1 := Lib.hid (fun W => (show Calls Tryz.prog 14 #[.agg (rS.v (D.toR k))] W fun e w' => e = .returned (.bool true) ∧ Below W.heap.size W w' from by have := rright_any (D.toR k) W; rwa [D.rright_to, hk] at this))
  have CR2 := Lib.hid (fun W => (show Calls Tryz.prog 14 #[.agg (rS.v (D.toR b))] W fun e w' => e = .returned (.bool true) ∧ Below W.heap.size W w' from by have := rright_any (D.toR b) W; rwa [D.rright_to, hb] at this))
  have CRk := Lib.hid (fun W => (show Calls Tryz.prog 13 #[.agg (kS.v k)] W fun e w' => e = .returned (.bool true) ∧ Below W.heap.size W w' from by have := keyright_any k W; rwa [hk] at this))
  have CB := Lib.hid (kbytes_any k)
  have CBr := Lib.hid (rbytes_any k)
  have CD := Lib.hid (fun W => (show Calls Tryz.prog 19 #[.agg (kS.v b)] W fun e w' => e = .returned (.tuple #[.agg (kS.v b), .int .i64 0]) ∧ Below W.heap.size W w' from by have := kread_any b W; unfold D.kread at this; rw [hb] at this; exact this))
  have CDr := Lib.hid (rread_any b)
  have cT := fun W => ktext_any k W
  have cTr := fun W => rtext_any k W hk
  obtain ⟨T, hT⟩ : ∃ T, D.sb (D.ktx k) = T := ⟨_, rfl⟩
  simp only [hT] at cT cTr
  have CT := Lib.hid cT
  have CTr := Lib.hid cTr
  clear cT cTr hT
  have CLb := Lib.hid (lawof_any b)
  have CBb := Lib.hid (kbytes_any b)
  have i1 := kselfb k
  have i2 := kselfb b
  have i3 := rselfb (D.toR b)
  obtain ⟨w0, hw0⟩ : ∃ w0, (w.alloc (.cells (kS.v k) 33)).alloc (.cells (kS.v b) 42) = w0 := ⟨_, rfl⟩
  have f0 : kS.rd w0 ⟨w.heap.size, 0, none⟩ = some k := by rw [← hw0]; exact Shp.rd_on (Shp.rd_new (S := kS) w _ _ k rfl) (below_alloc_ _ _)
  have g0 : kS.rd w0 ⟨w.heap.size + 1, 0, none⟩ = some b := by rw [← hw0]; exact Shp.rd_new _ _ _ _ (by simp)
  have z0 : Below w.heap.size w w0 := by rw [← hw0]; exact (below_alloc_ _ _).alloc (by simp) _
  clear hk hb
  go_enter Tryz.func4, Tryz.ntmps4
  go_wp2_with fail
  try rw [hw0]
  clear hw0
  go_wp2_with (first
    | (go_at_call 9; (with_reducible refine (CL.out _).mono ?_); rintro e w1 ⟨rfl, c1⟩; have b1 := c1.alloc c1.size (.cells (rS.v (D.toR k)) 30); have f1 := Shp.rd_on f0 b1; have g1 := Shp.rd_on g0 b1; have z1 := below_up z0 z0.size b1; have h1 := Shp.rd_new (S := rS) w1 _ 30 (D.toR k) rfl)
    | (go_at_call 14; (with_reducible refine (CR1.out _).mono ?_); rintro e w2 ⟨rfl, b2⟩; have z2 := below_up z1 z1.size b2; have f2 := Shp.rd_on f1 b2; have g2 := Shp.rd_on g1 b2; have h2 := Shp.rd_on h1 b2)
    | (go_at_call 15; (with_reducible refine (CTr.out _).mono ?_); rintro e w3 ⟨rfl, b3⟩; have z3 := below_up z2 z2.size b3; have f3 := Shp.rd_on f2 b3; have g3 := Shp.rd_on g2 b3; have h3 := Shp.rd_on h2 b3))
  have sf := Shp.rd_lt f3
  have sg := Shp.rd_lt g3
  have sh := Shp.rd_lt h3
  simp only at sf sg sh
  refine wp_region_ext (by kernel_rfl) (by kernel_rfl) ?_
  repeat (go_big_quiet_step (first
    | (go_at_call 16; with_reducible exact calls_ext (CB.out _))
    | (go_at_call 17; with_reducible exact calls_ext (CBr.out _))
    | (go_at_call 13; with_reducible exact calls_ext (CRk.out _))
    | (go_at_call 18; with_reducible exact calls_ext (CT.out _))))
  refine wpQuiet_nil ?_
  intro w4 hw4
  have b4 := ext_to hw4
  clear hw4
  have z4 := below_up z3 z3.size b4
  have f4 := Shp.rd_on f3 b4
  have g4 := Shp.rd_on g3 b4
  clear sf sg sh
  clear CR1 CL
  go_wp2_with (first
    | (go_at_call 19; (with_reducible refine (CD.out _).mono ?_); rintro e w5 ⟨rfl, c5⟩; have b5 := c5.alloc c5.size (.cells (kS.v b) 33); have z5 := below_up z4 z4.size b5; have g5 := Shp.rd_on g4 b5; have x5 := Shp.rd_new (S := kS) w5 _ 33 b rfl)
    | (go_at_call 20; (with_reducible refine (CDr.out _).mono ?_); rintro e w6 ⟨rfl, c6⟩; have b6 := c6.alloc c6.size (.cells (rS.v (D.toR b)) 30); have z6 := below_up z5 z5.size b6; have g6 := Shp.rd_on g5 b6; have x6 := Shp.rd_on x5 b6; have y6 := Shp.rd_new (S := rS) w6 _ 30 (D.toR b) rfl)
    | (go_at_call 14; (with_reducible refine (CR2.out _).mono ?_); rintro e w7 ⟨rfl, b7⟩; have z7 := below_up z6 z6.size b7; have g7 := Shp.rd_on g6 b7; have x7 := Shp.rd_on x6 b7; have y7 := Shp.rd_on y6 b7; have E7 := hE.on z7))
  have sg := Shp.rd_lt g7
  have sx := Shp.rd_lt x7
  have sy := Shp.rd_lt y7
  simp only at sg sx sy
  have CK := Lib.hid (fun p => kknown_any (ext w7 p) (E7.on (ext_below w7 p)))
  refine wp_region_ext (by kernel_rfl) (by kernel_rfl) ?_
  repeat (go_big_quiet_step (first
    | (go_at_call 12; with_reducible exact calls_ext (CK.out _))
    | (go_at_call 9; with_reducible exact calls_ext (CLb.out _))
    | (go_at_call 16; with_reducible exact calls_ext (CBb.out _))))
  refine wpQuiet_nil ?_
  intro w9 hw9
  have b9 := z7.trans ((ext_to hw9).mono z7.size)
  clear hw9
  go_wp2
  go_ret
  exact ⟨by rfl, b9⟩
set_option maxHeartbeats 16000000 in
theorem kbytes_rn (k b : D.Ky) (w : World) (hE : Env w) (hk : D.kright k = true) (hb : D.kright b = false) : Calls Tryz.prog 4 #[.agg (kS.v k), .agg (kS.v b)] w fun e w' => e = .returned (.bool true) ∧ Below w.heap.size w w' := by
  have CL := Lib.hid (lawof_any k)
  have CR1 := Lib.hid (fun W => (show Calls Tryz.prog 14 #[.agg (rS.v (D.toR k))] W fun e w' => e = .returned (.bool true) ∧ Below W.heap.size W w' from by have := rright_any (D.toR k) W; rwa [D.rright_to, hk] at this))
  have CR2 := Lib.hid (fun W => (show Calls Tryz.prog 14 #[.agg (rS.v (D.toR b))] W fun e w' => e = .returned (.bool false) ∧ Below W.heap.size W w' from by have := rright_any (D.toR b) W; rwa [D.rright_to, hb] at this))
  have CRk := Lib.hid (fun W => (show Calls Tryz.prog 13 #[.agg (kS.v k)] W fun e w' => e = .returned (.bool true) ∧ Below W.heap.size W w' from by have := keyright_any k W; rwa [hk] at this))
  have CB := Lib.hid (kbytes_any k)
  have CBr := Lib.hid (rbytes_any k)
  have CD := Lib.hid (fun W => (show Calls Tryz.prog 19 #[.agg (kS.v b)] W fun e w' => e = .returned (.tuple #[.agg (kS.v D.zK), .int .i64 3]) ∧ Below W.heap.size W w' from by have := kread_any b W; unfold D.kread at this; rw [hb] at this; exact this))
  have CDr := Lib.hid (rread_any b)
  have cT := fun W => ktext_any k W
  have cTr := fun W => rtext_any k W hk
  obtain ⟨T, hT⟩ : ∃ T, D.sb (D.ktx k) = T := ⟨_, rfl⟩
  simp only [hT] at cT cTr
  have CT := Lib.hid cT
  have CTr := Lib.hid cTr
  clear cT cTr hT
  have i1 := kselfb k
  have i2 := kselfb D.zK
  have i3 := rselfb (D.toR b)
  obtain ⟨w0, hw0⟩ : ∃ w0, (w.alloc (.cells (kS.v k) 33)).alloc (.cells (kS.v b) 42) = w0 := ⟨_, rfl⟩
  have f0 : kS.rd w0 ⟨w.heap.size, 0, none⟩ = some k := by rw [← hw0]; exact Shp.rd_on (Shp.rd_new (S := kS) w _ _ k rfl) (below_alloc_ _ _)
  have g0 : kS.rd w0 ⟨w.heap.size + 1, 0, none⟩ = some b := by rw [← hw0]; exact Shp.rd_new _ _ _ _ (by simp)
  have z0 : Below w.heap.size w w0 := by rw [← hw0]; exact (below_alloc_ _ _).alloc (by simp) _
  clear hk hb
  go_enter Tryz.func4, Tryz.ntmps4
  go_wp2_with fail
  try rw [hw0]
  clear hw0
  go_wp2_with (first
    | (go_at_call 9; (with_reducible refine (CL.out _).mono ?_); rintro e w1 ⟨rfl, c1⟩; have b1 := c1.alloc c1.size (.cells (rS.v (D.toR k)) 30); have f1 := Shp.rd_on f0 b1; have g1 := Shp.rd_on g0 b1; have z1 := below_up z0 z0.size b1; have h1 := Shp.rd_new (S := rS) w1 _ 30 (D.toR k) rfl)
    | (go_at_call 14; (with_reducible refine (CR1.out _).mono ?_); rintro e w2 ⟨rfl, b2⟩; have z2 := below_up z1 z1.size b2; have f2 := Shp.rd_on f1 b2; have g2 := Shp.rd_on g1 b2; have h2 := Shp.rd_on h1 b2)
    | (go_at_call 15; (with_reducible refine (CTr.out _).mono ?_); rintro e w3 ⟨rfl, b3⟩; have z3 := below_up z2 z2.size b3; have f3 := Shp.rd_on f2 b3; have g3 := Shp.rd_on g2 b3; have h3 := Shp.rd_on h2 b3))
  have sf := Shp.rd_lt f3
  have sg := Shp.rd_lt g3
  have sh := Shp.rd_lt h3
  simp only at sf sg sh
  refine wp_region_ext (by kernel_rfl) (by kernel_rfl) ?_
  repeat (go_big_quiet_step (first
    | (go_at_call 16; with_reducible exact calls_ext (CB.out _))
    | (go_at_call 17; with_reducible exact calls_ext (CBr.out _))
    | (go_at_call 13; with_reducible exact calls_ext (CRk.out _))
    | (go_at_call 18; with_reducible exact calls_ext (CT.out _))))
  refine wpQuiet_nil ?_
  intro w4 hw4
  have b4 := ext_to hw4
  clear hw4
  have z4 := below_up z3 z3.size b4
  have f4 := Shp.rd_on f3 b4
  have g4 := Shp.rd_on g3 b4
  clear sf sg sh
  clear CR1 CL
  go_wp2_with (first
    | (go_at_call 19; (with_reducible refine (CD.out _).mono ?_); rintro e w5 ⟨rfl, c5⟩; have b5 := c5.alloc c5.size (.cells (kS.v D.zK) 33); have z5 := below_up z4 z4.size b5; have g5 := Shp.rd_on g4 b5; have x5 := Shp.rd_new (S := kS) w5 _ 33 D.zK rfl)
    | (go_at_call 20; (with_reducible refine (CDr.out _).mono ?_); rintro e w6 ⟨rfl, c6⟩; have b6 := c6.alloc c6.size (.cells (rS.v (D.toR b)) 30); have z6 := below_up z5 z5.size b6; have g6 := Shp.rd_on g5 b6; have x6 := Shp.rd_on x5 b6; have y6 := Shp.rd_new (S := rS) w6 _ 30 (D.toR b) rfl)
    | (go_at_call 14; (with_reducible refine (CR2.out _).mono ?_); rintro e w7 ⟨rfl, b7⟩; have z7 := below_up z6 z6.size b7; have g7 := Shp.rd_on g6 b7; have x7 := Shp.rd_on x6 b7; have y7 := Shp.rd_on y6 b7; have E7 := hE.on z7)
    | (go_at_call 12; (with_reducible refine (kknown_any _ E7).mono ?_); rintro e w8 ⟨rfl, b8⟩; have z8 := below_up z7 z7.size b8; have x8 := Shp.rd_on x7 b8))
  go_ret
  exact ⟨by rfl, z8⟩
set_option maxHeartbeats 16000000 in
theorem kbytes_nr (k b : D.Ky) (w : World) (hE : Env w) (hk : D.kright k = false) (hb : D.kright b = true) : Calls Tryz.prog 4 #[.agg (kS.v k), .agg (kS.v b)] w fun e w' => e = .returned (.bool true) ∧ Below w.heap.size w w' := by
  have CL := Lib.hid (lawof_any k)
  have CR1 := Lib.hid (fun W => (show Calls Tryz.prog 14 #[.agg (rS.v (D.toR k))] W fun e w' => e = .returned (.bool false) ∧ Below W.heap.size W w' from by have := rright_any (D.toR k) W; rwa [D.rright_to, hk] at this))
  have CR2 := Lib.hid (fun W => (show Calls Tryz.prog 14 #[.agg (rS.v (D.toR b))] W fun e w' => e = .returned (.bool true) ∧ Below W.heap.size W w' from by have := rright_any (D.toR b) W; rwa [D.rright_to, hb] at this))
  have CRk := Lib.hid (fun W => (show Calls Tryz.prog 13 #[.agg (kS.v k)] W fun e w' => e = .returned (.bool false) ∧ Below W.heap.size W w' from by have := keyright_any k W; rwa [hk] at this))
  have CB := Lib.hid (kbytes_any k)
  have CBr := Lib.hid (rbytes_any k)
  have CD := Lib.hid (fun W => (show Calls Tryz.prog 19 #[.agg (kS.v b)] W fun e w' => e = .returned (.tuple #[.agg (kS.v b), .int .i64 0]) ∧ Below W.heap.size W w' from by have := kread_any b W; unfold D.kread at this; rw [hb] at this; exact this))
  have CDr := Lib.hid (rread_any b)
  have CT := Lib.hid (fun W => (show Calls Tryz.prog 18 #[.agg (kS.v k)] W fun e w' => e = .returned (.string ⟨#[]⟩) ∧ Below W.heap.size W w' from by have := ktext_any k W; rw [(D.ktx_nil k).2 hk] at this; exact this))
  have CLb := Lib.hid (lawof_any b)
  have CBb := Lib.hid (kbytes_any b)
  have i1 := kselfb k
  have i2 := kselfb b
  have i3 := rselfb (D.toR b)
  obtain ⟨w0, hw0⟩ : ∃ w0, (w.alloc (.cells (kS.v k) 33)).alloc (.cells (kS.v b) 42) = w0 := ⟨_, rfl⟩
  have f0 : kS.rd w0 ⟨w.heap.size, 0, none⟩ = some k := by rw [← hw0]; exact Shp.rd_on (Shp.rd_new (S := kS) w _ _ k rfl) (below_alloc_ _ _)
  have g0 : kS.rd w0 ⟨w.heap.size + 1, 0, none⟩ = some b := by rw [← hw0]; exact Shp.rd_new _ _ _ _ (by simp)
  have z0 : Below w.heap.size w w0 := by rw [← hw0]; exact (below_alloc_ _ _).alloc (by simp) _
  clear hk hb
  go_enter Tryz.func4, Tryz.ntmps4
  go_wp2_with fail
  try rw [hw0]
  clear hw0
  go_wp2_with (first
    | (go_at_call 9; (with_reducible refine (CL.out _).mono ?_); rintro e w1 ⟨rfl, c1⟩; have b1 := c1.alloc c1.size (.cells (rS.v (D.toR k)) 30); have f1 := Shp.rd_on f0 b1; have g1 := Shp.rd_on g0 b1; have z1 := below_up z0 z0.size b1; have h1 := Shp.rd_new (S := rS) w1 _ 30 (D.toR k) rfl)
    | (go_at_call 14; (with_reducible refine (CR1.out _).mono ?_); rintro e w2 ⟨rfl, b2⟩; have z2 := below_up z1 z1.size b2; have f2 := Shp.rd_on f1 b2; have g2 := Shp.rd_on g1 b2; have h2 := Shp.rd_on h1 b2))
  have sf := Shp.rd_lt f2
  have sg := Shp.rd_lt g2
  have sh := Shp.rd_lt h2
  simp only at sf sg sh
  refine wp_region_ext (by kernel_rfl) (by kernel_rfl) ?_
  repeat (go_big_quiet_step (first
    | (go_at_call 16; with_reducible exact calls_ext (CB.out _))
    | (go_at_call 17; with_reducible exact calls_ext (CBr.out _))
    | (go_at_call 13; with_reducible exact calls_ext (CRk.out _))
    | (go_at_call 18; with_reducible exact calls_ext (CT.out _))))
  refine wpQuiet_nil ?_
  intro w4 hw4
  have b4 := ext_to hw4
  clear hw4
  have z4 := below_up z2 z2.size b4
  have f4 := Shp.rd_on f2 b4
  have g4 := Shp.rd_on g2 b4
  clear sf sg sh
  clear CR1 CL
  go_wp2_with (first
    | (go_at_call 19; (with_reducible refine (CD.out _).mono ?_); rintro e w5 ⟨rfl, c5⟩; have b5 := c5.alloc c5.size (.cells (kS.v b) 33); have z5 := below_up z4 z4.size b5; have g5 := Shp.rd_on g4 b5; have x5 := Shp.rd_new (S := kS) w5 _ 33 b rfl)
    | (go_at_call 20; (with_reducible refine (CDr.out _).mono ?_); rintro e w6 ⟨rfl, c6⟩; have b6 := c6.alloc c6.size (.cells (rS.v (D.toR b)) 30); have z6 := below_up z5 z5.size b6; have g6 := Shp.rd_on g5 b6; have x6 := Shp.rd_on x5 b6; have y6 := Shp.rd_new (S := rS) w6 _ 30 (D.toR b) rfl)
    | (go_at_call 14; (with_reducible refine (CR2.out _).mono ?_); rintro e w7 ⟨rfl, b7⟩; have z7 := below_up z6 z6.size b7; have g7 := Shp.rd_on g6 b7; have x7 := Shp.rd_on x6 b7; have y7 := Shp.rd_on y6 b7; have E7 := hE.on z7))
  have sg := Shp.rd_lt g7
  have sx := Shp.rd_lt x7
  have sy := Shp.rd_lt y7
  simp only at sg sx sy
  have CK := Lib.hid (fun p => kknown_any (ext w7 p) (E7.on (ext_below w7 p)))
  refine wp_region_ext (by kernel_rfl) (by kernel_rfl) ?_
  repeat (go_big_quiet_step (first
    | (go_at_call 12; with_reducible exact calls_ext (CK.out _))
    | (go_at_call 9; with_reducible exact calls_ext (CLb.out _))
    | (go_at_call 16; with_reducible exact calls_ext (CBb.out _))))
  refine wpQuiet_nil ?_
  intro w9 hw9
  have b9 := z7.trans ((ext_to hw9).mono z7.size)
  clear hw9
  go_wp2
  go_ret
  exact ⟨by rfl, b9⟩
set_option maxHeartbeats 16000000 in
theorem kbytes_nn (k b : D.Ky) (w : World) (hE : Env w) (hk : D.kright k = false) (hb : D.kright b = false) : Calls Tryz.prog 4 #[.agg (kS.v k), .agg (kS.v b)] w fun e w' => e = .returned (.bool true) ∧ Below w.heap.size w w' := by
  have CL := Lib.hid (lawof_any k)
  have CR1 := Lib.hid (fun W => (show Calls Tryz.prog 14 #[.agg (rS.v (D.toR k))] W fun e w' => e = .returned (.bool false) ∧ Below W.heap.size W w' from by have := rright_any (D.toR k) W; rwa [D.rright_to, hk] at this))
  have CR2 := Lib.hid (fun W => (show Calls Tryz.prog 14 #[.agg (rS.v (D.toR b))] W fun e w' => e = .returned (.bool false) ∧ Below W.heap.size W w' from by have := rright_any (D.toR b) W; rwa [D.rright_to, hb] at this))
  have CRk := Lib.hid (fun W => (show Calls Tryz.prog 13 #[.agg (kS.v k)] W fun e w' => e = .returned (.bool false) ∧ Below W.heap.size W w' from by have := keyright_any k W; rwa [hk] at this))
  have CB := Lib.hid (kbytes_any k)
  have CBr := Lib.hid (rbytes_any k)
  have CD := Lib.hid (fun W => (show Calls Tryz.prog 19 #[.agg (kS.v b)] W fun e w' => e = .returned (.tuple #[.agg (kS.v D.zK), .int .i64 3]) ∧ Below W.heap.size W w' from by have := kread_any b W; unfold D.kread at this; rw [hb] at this; exact this))
  have CDr := Lib.hid (rread_any b)
  have CT := Lib.hid (fun W => (show Calls Tryz.prog 18 #[.agg (kS.v k)] W fun e w' => e = .returned (.string ⟨#[]⟩) ∧ Below W.heap.size W w' from by have := ktext_any k W; rw [(D.ktx_nil k).2 hk] at this; exact this))
  have i1 := kselfb k
  have i2 := kselfb D.zK
  have i3 := rselfb (D.toR b)
  obtain ⟨w0, hw0⟩ : ∃ w0, (w.alloc (.cells (kS.v k) 33)).alloc (.cells (kS.v b) 42) = w0 := ⟨_, rfl⟩
  have f0 : kS.rd w0 ⟨w.heap.size, 0, none⟩ = some k := by rw [← hw0]; exact Shp.rd_on (Shp.rd_new (S := kS) w _ _ k rfl) (below_alloc_ _ _)
  have g0 : kS.rd w0 ⟨w.heap.size + 1, 0, none⟩ = some b := by rw [← hw0]; exact Shp.rd_new _ _ _ _ (by simp)
  have z0 : Below w.heap.size w w0 := by rw [← hw0]; exact (below_alloc_ _ _).alloc (by simp) _
  clear hk hb
  go_enter Tryz.func4, Tryz.ntmps4
  go_wp2_with fail
  try rw [hw0]
  clear hw0
  go_wp2_with (first
    | (go_at_call 9; (with_reducible refine (CL.out _).mono ?_); rintro e w1 ⟨rfl, c1⟩; have b1 := c1.alloc c1.size (.cells (rS.v (D.toR k)) 30); have f1 := Shp.rd_on f0 b1; have g1 := Shp.rd_on g0 b1; have z1 := below_up z0 z0.size b1; have h1 := Shp.rd_new (S := rS) w1 _ 30 (D.toR k) rfl)
    | (go_at_call 14; (with_reducible refine (CR1.out _).mono ?_); rintro e w2 ⟨rfl, b2⟩; have z2 := below_up z1 z1.size b2; have f2 := Shp.rd_on f1 b2; have g2 := Shp.rd_on g1 b2; have h2 := Shp.rd_on h1 b2))
  have sf := Shp.rd_lt f2
  have sg := Shp.rd_lt g2
  have sh := Shp.rd_lt h2
  simp only at sf sg sh
  refine wp_region_ext (by kernel_rfl) (by kernel_rfl) ?_
  repeat (go_big_quiet_step (first
    | (go_at_call 16; with_reducible exact calls_ext (CB.out _))
    | (go_at_call 17; with_reducible exact calls_ext (CBr.out _))
    | (go_at_call 13; with_reducible exact calls_ext (CRk.out _))
    | (go_at_call 18; with_reducible exact calls_ext (CT.out _))))
  refine wpQuiet_nil ?_
  intro w4 hw4
  have b4 := ext_to hw4
  clear hw4
  have z4 := below_up z2 z2.size b4
  have f4 := Shp.rd_on f2 b4
  have g4 := Shp.rd_on g2 b4
  clear sf sg sh
  clear CR1 CL
  go_wp2_with (first
    | (go_at_call 19; (with_reducible refine (CD.out _).mono ?_); rintro e w5 ⟨rfl, c5⟩; have b5 := c5.alloc c5.size (.cells (kS.v D.zK) 33); have z5 := below_up z4 z4.size b5; have g5 := Shp.rd_on g4 b5; have x5 := Shp.rd_new (S := kS) w5 _ 33 D.zK rfl)
    | (go_at_call 20; (with_reducible refine (CDr.out _).mono ?_); rintro e w6 ⟨rfl, c6⟩; have b6 := c6.alloc c6.size (.cells (rS.v (D.toR b)) 30); have z6 := below_up z5 z5.size b6; have g6 := Shp.rd_on g5 b6; have x6 := Shp.rd_on x5 b6; have y6 := Shp.rd_new (S := rS) w6 _ 30 (D.toR b) rfl)
    | (go_at_call 14; (with_reducible refine (CR2.out _).mono ?_); rintro e w7 ⟨rfl, b7⟩; have z7 := below_up z6 z6.size b7; have g7 := Shp.rd_on g6 b7; have x7 := Shp.rd_on x6 b7; have y7 := Shp.rd_on y6 b7; have E7 := hE.on z7)
    | (go_at_call 12; (with_reducible refine (kknown_any _ E7).mono ?_); rintro e w8 ⟨rfl, b8⟩; have z8 := below_up z7 z7.size b8; have x8 := Shp.rd_on x7 b8))
  go_ret
  exact ⟨by rfl, z8⟩
theorem kbytes_all (k b : D.Ky) (w : World) (hE : Env w) : Calls Tryz.prog 4 #[.agg (kS.v k), .agg (kS.v b)] w fun e w' => e = .returned (.bool true) ∧ Below w.heap.size w w' := by
  cases hk : D.kright k with
  | true => cases hb : D.kright b with
    | true => exact kbytes_rr k b w hE hk hb
    | false => exact kbytes_rn k b w hE hk hb
  | false => cases hb : D.kright b with
    | true => exact kbytes_nr k b w hE hk hb
    | false => exact kbytes_nn k b w hE hk hb
end Go.Proofs.YtjblepjkejihcaaGreatDoor
