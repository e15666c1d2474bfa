/-
  
-/
import Derived.Test.YtjlaffgbmcpldaaGreatDoorG28
set_option linter.unusedVariables false
set_option linter.unusedSimpArgs false
set_option maxRecDepth 100000
namespace Go.Proofs.YtjlaffgbmcpldaaGreatDoor
open Go.RowKit
attribute [local go_sem ↓] Go.wp_at_zero Go.wp_at_succ ld_k lv_k st_k eq_k ne_k bd_k ld_b lv_b st_b eq_b ne_b bd_25 ld_r lv_r st_rk eq_rk ne_rk bd_r ld_p lv_p st_px bd_p Nm.ld_a Nm.ld_n Nm.st_a Nm.st_n Nm.eq_a Nm.eq_n Nm.ne_a Nm.ne_n Nm.lv_a Nm.lv_n ld_a ld_n st_a st_n eq_a eq_n ne_a ne_n lv_a lv_n ld_l lv_l st_l bd_l bd_n bs_k ld_v lv_v st_v ne_v bd_v bs_v ld_rh ld_d lv_rh lv_d st_r st_d ne_rh eq_rh ne_d bd_rh bd_d ld_x lv_x st_x bd_x bs_x ld_e lv_e st_e bd_e bs_e ne_e
attribute [local go_sem] run_ldk run_lvk run_stk run_eqk run_nek run_bdk_z run_ldb run_lvb run_stb run_eqb run_neb run_ldr run_lvr run_strk run_eqrk run_nerk run_bdr_z run_ldp run_lvp run_stpx Nm.run_ld_a Nm.run_ld_n Nm.run_st_n Nm.run_eq_a Nm.run_eq_n Nm.run_ne_a Nm.run_ne_n Nm.run_lv_a Nm.run_lv_n Nm.rd_new Nm.rd_old Nm.rd_drew Nm.rd_drewN run_ld_a run_ld_n run_sw_a run_sw_n run_eq_a run_eq_n run_ne_a run_ne_n run_lv_a run_lv_n st_z ne_z eq_z rd_new rd_old rd_drew rd_drewN Shp.rd_new Shp.rd_old Shp.rd_drew Shp.rd_drewN Shp.rd_set Shp.tn_new Shp.tn_old Shp.tn_drew Shp.tn_drewN tn_new tn_old tn_drew tn_drewN rd_set setRow_alloc run_stn3 run_stt15 run_lvl run_ldl run_stl run_bdl run_bdn run_bdn0 run_bsk Shp.rd_extk cell_ext run_ldv run_lvv run_stv run_nev run_bdv_z run_bdv_d run_bdv_r run_bsv1 run_bsv0 run_ldrh run_ldd run_lvrh run_lvd run_str run_std run_nerh run_eqrh run_ned run_bdr0 run_bdd0 run_bdr1 run_bdd1 run_bdd9 run_ldx run_lvx run_stx run_lde run_lve run_bde run_bse1 run_bdv_3 Shp.rd_extk cell_ext
theorem D.Sm.live_le (M : D.Sm) : M.live ≤ M.ks.length := List.countP_le_length
theorem D.grw_bd (M : D.Sm) (hk : M.ks.length ≤ 1000) (l : List D.Wt) : -(l.length : Int) ≤ D.grw M l ∧ D.grw M l ≤ 1000 + l.length := by
 have h1 := M.live_le
 have h2 := D.grs_bd M l
 rw [D.grw_eq]
 omega
set_option maxHeartbeats 8000000 in
theorem sgrown_any {base s : Nat} {w : World} {M : D.Sm} (hS : SM base w s M) (hl : M.last ≤ 1000) (hk : M.ks.length ≤ 1000) {A : Option Addr} {n c : Nat} {l : List D.Wt} (hr : Shp.Row xS w A n l) (hn : n ≤ 1000) : Calls Tryz.prog 53 #[.pointer (some ⟨s, 0, none⟩), .slice A n c] w fun e w' => e = .returned (.int .i64 (D.grw M l)) ∧ Below w.heap.size w w' := by
 have hlen : Kept (l.length = n) := ⟨hr.len⟩
 have HR := Lib.hid hr
 have HS := Lib.hid (SO.of hS)
 obtain ⟨g, o, q, hC⟩ := hS
 have c0 := hC.blk.c 2
 simp only [List.getElem?_toArray, List.getElem?_cons_succ, List.getElem?_cons_zero] at c0
 have HB := Lib.hid (D.grw_bd M hk)
 clear hC hr hk
 go_enter Tryz.func53, Tryz.ntmps53
 go_wp2_with fail
 clear c0
 go_loopw [5, 15] (fun m i wr => ∃ j : Nat, j ≤ n ∧ i = .int .i64 j ∧ m = .int .i64 (D.grw M (l.take j)) ∧ Hid (Below w.heap.size w wr) ∧ Kept (-(j : Int) ≤ D.grw M (l.take j) ∧ D.grw M (l.take j) ≤ 1000 + j)) (fun _ i _ => n - (intOf i).toNat)
 case atStart => exact ⟨0, Nat.zero_le _, rfl, rfl, Lib.hid (Below.refl _ _), ⟨by have := HB.out []; simpa using this⟩⟩
 case round =>
  obtain ⟨j, hj, rfl, rfl, hb, hbn⟩ := hrel
  by_cases hlt : j < n
  ·obtain ⟨x, hx⟩ : ∃ x, l[j]? = some x := ⟨_, List.getElem?_eq_getElem (by rw [hlen.out]; exact hlt)⟩
   obtain ⟨ad, rfl, hal, hrd⟩ := (HR.out.on hb.out).rd hx
   have hrd : xS.rd wr (ad.add (j * 35)) = some x := hrd
   have j1 : (j : Int) < (n : Int) := by omega
   have j0 : (0 : Int) ≤ (j : Int) := by omega
   have hT := Lib.hid (stk_next hx)
   have HBN : Kept (-((j + 1 : Nat) : Int) ≤ D.grw M (l.take (j + 1)) ∧ D.grw M (l.take (j + 1)) ≤ 1000 + ((j + 1 : Nat) : Int)) := ⟨by
    have := HB.out (l.take (j + 1))
    have h2 : (l.take (j + 1)).length ≤ j + 1 := by simp; omega
    omega⟩
   have CO := Lib.hid (fun W (hW : Below w.heap.size w W) => of_key (HS.out.on hW) hl x.k)
   have F1 := Lib.hid (XF.of (Shp.rd_new (S := xS) wr wr.heap.size 77 x rfl))
   have f1 := F1.out.k
   have bx := below_alloc_ wr (.cells (xS.v x) 77)
   obtain ⟨w1, hw1⟩ : ∃ w1, wr.alloc (.cells (xS.v x) 77) = w1 := ⟨_, rfl⟩
   rw [hw1] at F1 f1 bx
   obtain ⟨m, hm⟩ : ∃ m, D.grw M (l.take j) = m := ⟨_, rfl⟩
   have hbm : -1000 ≤ m ∧ m ≤ 2000 := by have := hbn.out; rw [hm] at this; omega
   obtain ⟨hb1, hb2⟩ := hbm
   rw [hm]
   by_cases hcase : (D.liv (M.f x.k) = true ∧ x.d = true)
   ·have HLV : Hid (D.liv (M.f x.k) = true) := Lib.hid hcase.1
    have HD : Hid (x.d = true) := Lib.hid hcase.2
    have hdl : D.dlt M x = -1 := by
     unfold D.dlt
     rw [show D.lvn (M.f x.k) = D.liv (M.f x.k) from rfl, hcase.1, hcase.2]
     rfl
    have HG : Kept (D.grw M (l.take (j + 1)) = m - 1) := ⟨by rw [hT.out, D.grw_snoc, hm, hdl] <;> omega⟩
    clear hcase hdl
    go_wp2_with fail
    try rw [hw1]
    clear hw1
    go_wp2_with (first
     | (go_at_call 73; (refine (CO.out _ (below_up hb.out hb.out.size bx)).mono ?_); rintro e w2 ⟨c2, A2, n2, d2, rfl, hA2, hv3, b2, -⟩; have CL := Lib.hid (live_any hA2 hv3); have F2 := F1.out.on b2; have c25 := F2.d; rw [HLV.out] at CL; rw [HD.out] at c25)
     | (go_at_call 91; (with_reducible refine CL.out.mono ?_); rintro e w3 ⟨rfl, b3⟩; have F3 := F2.on b3; have c25' := F3.d; rw [HD.out] at c25'))
    go_roundw
    case rel => exact ⟨j + 1, by omega, by go_num, by rw [HG.out] <;> go_num, Lib.hid (below_up (below_up (below_up hb.out hb.out.size bx) (below_up hb.out hb.out.size bx).size b2) (below_up (below_up hb.out hb.out.size bx) (below_up hb.out hb.out.size bx).size b2).size b3), HBN⟩
    case measure => simp [intOf]; omega
   by_cases hcase : (D.liv (M.f x.k) = true ∧ x.d = false)
   ·have HLV : Hid (D.liv (M.f x.k) = true) := Lib.hid hcase.1
    have HD : Hid (x.d = false) := Lib.hid hcase.2
    have hdl : D.dlt M x = 0 := by
     unfold D.dlt
     rw [show D.lvn (M.f x.k) = D.liv (M.f x.k) from rfl, hcase.1, hcase.2]
     rfl
    have HG : Kept (D.grw M (l.take (j + 1)) = m + 0) := ⟨by rw [hT.out, D.grw_snoc, hm, hdl] <;> omega⟩
    clear hcase hdl
    go_wp2_with fail
    try rw [hw1]
    clear hw1
    go_wp2_with (first
     | (go_at_call 73; (refine (CO.out _ (below_up hb.out hb.out.size bx)).mono ?_); rintro e w2 ⟨c2, A2, n2, d2, rfl, hA2, hv3, b2, -⟩; have CL := Lib.hid (live_any hA2 hv3); have F2 := F1.out.on b2; have c25 := F2.d; rw [HLV.out] at CL; rw [HD.out] at c25)
     | (go_at_call 91; (with_reducible refine CL.out.mono ?_); rintro e w3 ⟨rfl, b3⟩; have F3 := F2.on b3; have c25' := F3.d; rw [HD.out] at c25'))
    go_roundw
    case rel => exact ⟨j + 1, by omega, by go_num, by rw [HG.out, Int.add_zero], Lib.hid (below_up (below_up (below_up hb.out hb.out.size bx) (below_up hb.out hb.out.size bx).size b2) (below_up (below_up hb.out hb.out.size bx) (below_up hb.out hb.out.size bx).size b2).size b3), HBN⟩
    case measure => simp [intOf]; omega
   by_cases hcase : (D.liv (M.f x.k) = false ∧ x.d = true)
   ·have HLV : Hid (D.liv (M.f x.k) = false) := Lib.hid hcase.1
    have HD : Hid (x.d = true) := Lib.hid hcase.2
    have hdl : D.dlt M x = 0 := by
     unfold D.dlt
     rw [show D.lvn (M.f x.k) = D.liv (M.f x.k) from rfl, hcase.1, hcase.2]
     rfl
    have HG : Kept (D.grw M (l.take (j + 1)) = m + 0) := ⟨by rw [hT.out, D.grw_snoc, hm, hdl] <;> omega⟩
    clear hcase hdl
    go_wp2_with fail
    try rw [hw1]
    clear hw1
    go_wp2_with (first
     | (go_at_call 73; (refine (CO.out _ (below_up hb.out hb.out.size bx)).mono ?_); rintro e w2 ⟨c2, A2, n2, d2, rfl, hA2, hv3, b2, -⟩; have CL := Lib.hid (live_any hA2 hv3); have F2 := F1.out.on b2; have c25 := F2.d; rw [HLV.out] at CL; rw [HD.out] at c25)
     | (go_at_call 91; (with_reducible refine CL.out.mono ?_); rintro e w3 ⟨rfl, b3⟩; have F3 := F2.on b3; have c25' := F3.d; rw [HD.out] at c25'))
    go_roundw
    case rel => exact ⟨j + 1, by omega, by go_num, by rw [HG.out, Int.add_zero], Lib.hid (below_up (below_up (below_up hb.out hb.out.size bx) (below_up hb.out hb.out.size bx).size b2) (below_up (below_up hb.out hb.out.size bx) (below_up hb.out hb.out.size bx).size b2).size b3), HBN⟩
    case measure => simp [intOf]; omega
   by_cases hcase : (D.liv (M.f x.k) = false ∧ x.d = false)
   ·have HLV : Hid (D.liv (M.f x.k) = false) := Lib.hid hcase.1
    have HD : Hid (x.d = false) := Lib.hid hcase.2
    have hdl : D.dlt M x = 1 := by
     unfold D.dlt
     rw [show D.lvn (M.f x.k) = D.liv (M.f x.k) from rfl, hcase.1, hcase.2]
     rfl
    have HG : Kept (D.grw M (l.take (j + 1)) = m + 1) := ⟨by rw [hT.out, D.grw_snoc, hm, hdl] <;> omega⟩
    clear hcase hdl
    go_wp2_with fail
    try rw [hw1]
    clear hw1
    go_wp2_with (first
     | (go_at_call 73; (refine (CO.out _ (below_up hb.out hb.out.size bx)).mono ?_); rintro e w2 ⟨c2, A2, n2, d2, rfl, hA2, hv3, b2, -⟩; have CL := Lib.hid (live_any hA2 hv3); have F2 := F1.out.on b2; have c25 := F2.d; rw [HLV.out] at CL; rw [HD.out] at c25)
     | (go_at_call 91; (with_reducible refine CL.out.mono ?_); rintro e w3 ⟨rfl, b3⟩; have F3 := F2.on b3; have c25' := F3.d; rw [HD.out] at c25'))
    go_roundw
    case rel => exact ⟨j + 1, by omega, by go_num, by rw [HG.out] <;> go_num, Lib.hid (below_up (below_up (below_up hb.out hb.out.size bx) (below_up hb.out hb.out.size bx).size b2) (below_up (below_up hb.out hb.out.size bx) (below_up hb.out hb.out.size bx).size b2).size b3), HBN⟩
    case measure => simp [intOf]; omega
   exfalso
   rename_i h1 h2 h3 h4
   cases hq : D.liv (M.f x.k) <;> cases hd : x.d <;> simp_all
  ·obtain rfl : n = j := by omega
   have hT := Lib.hid (show l.take n = l by rw [← hlen.out]; exact List.take_length)
   go_wp2
   go_ret
   exact ⟨by rw [hT.out]; rfl, hb.out⟩
theorem sroom_any {base s : Nat} {w : World} {M : D.Sm} (hS : SM base w s M) (hl : M.last ≤ 1000) (hk : M.ks.length ≤ 1000) {A : Option Addr} {n c : Nat} {l : List D.Wt} (hr : Shp.Row xS w A n l) (hn : n ≤ 1000) : Calls Tryz.prog 52 #[.pointer (some ⟨s, 0, none⟩), .slice A n c] w fun e w' => e = .returned (.int .i64 (if 200 < D.grw M l then 6 else 0)) ∧ Below w.heap.size w w' := by
 have CG := Lib.hid (sgrown_any (c := c) hS hl hk hr hn)
 clear hS hr
 obtain ⟨m, hm⟩ : ∃ m, D.grw M l = m := ⟨_, rfl⟩
 rw [hm] at CG ⊢
 by_cases h : 200 < m
 ·rw [if_pos h]
  go_enter Tryz.func52, Tryz.ntmps52
  go_wp2_with (go_at_call 53; (with_reducible refine CG.out.mono ?_); rintro e w2 ⟨rfl, b2⟩)
  go_ret
  exact ⟨rfl, b2⟩
 ·rw [if_neg h]
  go_enter Tryz.func52, Tryz.ntmps52
  go_wp2_with (go_at_call 53; (with_reducible refine CG.out.mono ?_); rintro e w2 ⟨rfl, b2⟩)
  go_ret
  exact ⟨rfl, b2⟩
end Go.Proofs.YtjlaffgbmcpldaaGreatDoor
set_option linter.unusedVariables false
set_option linter.unusedSimpArgs false
set_option maxRecDepth 100000
namespace Go.Proofs.YtjlaffgbmcpldaaGreatDoor
open Go.RowKit
attribute [local go_sem ↓] Go.wp_at_zero Go.wp_at_succ ld_k lv_k st_k eq_k ne_k bd_k ld_b lv_b st_b eq_b ne_b bd_25 ld_r lv_r st_rk eq_rk ne_rk bd_r ld_p lv_p st_px bd_p Nm.ld_a Nm.ld_n Nm.st_a Nm.st_n Nm.eq_a Nm.eq_n Nm.ne_a Nm.ne_n Nm.lv_a Nm.lv_n ld_a ld_n st_a st_n eq_a eq_n ne_a ne_n lv_a lv_n ld_l lv_l st_l bd_l bd_n bs_k ld_v lv_v st_v ne_v bd_v bs_v ld_rh ld_d lv_rh lv_d st_r st_d ne_rh eq_rh ne_d bd_rh bd_d ld_x lv_x st_x bd_x bs_x ld_e lv_e st_e bd_e bs_e ne_e
attribute [local go_sem] run_ldk run_lvk run_stk run_eqk run_nek run_bdk_z run_ldb run_lvb run_stb run_eqb run_neb run_ldr run_lvr run_strk run_eqrk run_nerk run_bdr_z run_ldp run_lvp run_stpx Nm.run_ld_a Nm.run_ld_n Nm.run_st_n Nm.run_eq_a Nm.run_eq_n Nm.run_ne_a Nm.run_ne_n Nm.run_lv_a Nm.run_lv_n Nm.rd_new Nm.rd_old Nm.rd_drew Nm.rd_drewN run_ld_a run_ld_n run_sw_a run_sw_n run_eq_a run_eq_n run_ne_a run_ne_n run_lv_a run_lv_n st_z ne_z eq_z rd_new rd_old rd_drew rd_drewN Shp.rd_new Shp.rd_old Shp.rd_drew Shp.rd_drewN Shp.rd_set Shp.tn_new Shp.tn_old Shp.tn_drew Shp.tn_drewN tn_new tn_old tn_drew tn_drewN rd_set setRow_alloc run_stn3 run_stt15 run_lvl run_ldl run_stl run_bdl run_bdn run_bdn0 run_bsk Shp.rd_extk cell_ext run_ldv run_lvv run_stv run_nev run_bdv_z run_bdv_d run_bdv_r run_bsv1 run_bsv0 run_ldrh run_ldd run_lvrh run_lvd run_str run_std run_nerh run_eqrh run_ned run_bdr0 run_bdd0 run_bdr1 run_bdd1 run_bdd9 run_ldx run_lvx run_stx run_lde run_lve run_bde run_bse1 run_bdv_3 Shp.rd_extk cell_ext
theorem xv_at (x : D.Wt) (t : Nat) : (xS.v x).setIfInBounds 33 (.int .u64 (t : Nat)) = xS.v ⟨x.k, x.d, { x.r with a := t }⟩ := by
 have hl := x.k.len
 show (xcells x).toArray.setIfInBounds 33 (.int .u64 (t : Nat)) = (xcells _).toArray
 rw [List.setIfInBounds_toArray]
 congr 1
 simp only [xcells]
 rw [List.set_append_right _ _ (by rw [bys_len, hl]; omega), bys_len, hl]
 simp [rcellsh]
set_option maxHeartbeats 4000000 in
theorem forked_any (x : D.Wt) (t : Nat) (w : World) : Calls Tryz.prog 95 #[.agg (xS.v x), .int .u64 (t : Nat)] w fun e w' => e = .returned (.agg (rSh.v (D.fkd x t))) ∧ Below w.heap.size w w' := by
 have B0 := Blk.new w 77 (xS.v x)
 have b0 := below_alloc_ w (.cells (xS.v x) 77)
 obtain ⟨w0, hw0⟩ : ∃ w0, w.alloc (.cells (xS.v x) 77) = w0 := ⟨_, rfl⟩
 rw [hw0] at B0 b0
 have f1 : Shp.tn 9 (w0.alloc (.cells #[.int .u8 0, .int .u8 0, .int .u8 0, .int .u8 0, .int .u8 0, .bool false, .int .u32 0, .int .u64 0, .string ⟨#[]⟩] 75)) w0.heap.size = true := Shp.tn_new _ _ _ _ _ rfl rfl
 have b1 := below_alloc_ w0 (.cells #[.int .u8 0, .int .u8 0, .int .u8 0, .int .u8 0, .int .u8 0, .bool false, .int .u32 0, .int .u64 0, .string ⟨#[]⟩] 75)
 obtain ⟨w1, hw1⟩ : ∃ w1, w0.alloc (.cells #[.int .u8 0, .int .u8 0, .int .u8 0, .int .u8 0, .int .u8 0, .bool false, .int .u32 0, .int .u64 0, .string ⟨#[]⟩] 75) = w1 := ⟨_, rfl⟩
 rw [hw1] at f1 b1
 have B1 := B0.on b1
 have hge : w.heap.size ≤ w0.heap.size := b0.size
 have hlt : w.heap.size < w0.heap.size := B0.lt
 have F1 : XF w1 w.heap.size x := .of (Shp.rd_blk B1)
 have c1 := F1.rk
 have c2 := F1.ra
 have c3 := F1.ka
 have c4 := F1.r
 have hz := Lib.hid (below_up b0 b0.size b1)
 have HB := Lib.hid B1
 clear B0 b0 b1 B1 F1
 have fin : Hid (∀ (W : World) (r : D.Rc), Below w.heap.size w W → Shp.tn 9 W w0.heap.size = true → rSh.rd (W.setRow w0.heap.size (rSh.v r)) ⟨w0.heap.size, 0, none⟩ = some r ∧ Below w.heap.size w (W.setRow w0.heap.size (rSh.v r))) := Lib.hid fun W r hW hT => ⟨Shp.rd_set (S := rSh) _ _ _ hT, bel_setRow hW hge _⟩
 by_cases h1 : x.r.k = 4
 ·by_cases h2 : x.r.a = 0
  ·by_cases h3 : x.k.a = 0
   ·have e : D.fkd x t = x.r := by unfold D.fkd; rw [if_neg (by simp [h3])]
    rw [e]
    have i1 : ((x.r.k : Int) == 4) = true := by simp; omega
    have i2 : ((x.r.a : Int) == 0) = true := by simp; omega
    have i3 : ((x.k.a : Int) != 0) = false := by simp; omega
    clear e h1 h2 h3
    go_enter Tryz.func95, Tryz.ntmps95
    go_wp2_with fail
    try rw [hw0]
    try rw [hw1]
    go_wp2_with fail
    obtain ⟨r9, z9⟩ := fin.out w1 x.r hz.out f1
    refine bodyPost_ret (v := .agg (rSh.v x.r)) (by rw [results_cell1 rfl]; simp [asAddr, Result.andThen, lvr_ofh r9]) rfl ⟨rfl, z9⟩
   ·have e : D.fkd x t = { x.r with a := t } := by unfold D.fkd; rw [if_pos ⟨h1, h2, h3⟩]
    rw [e]
    have i1 : ((x.r.k : Int) == 4) = true := by simp; omega
    have i2 : ((x.r.a : Int) == 0) = true := by simp; omega
    have i3 : ((x.k.a : Int) != 0) = true := by simp; omega
    have fr := HB.out.f 33
    have B2 := HB.out.put 33 (.int .u64 (t : Nat))
    rw [xv_at] at B2
    obtain ⟨w2, hw2⟩ : ∃ w2, w1.setCell ⟨w.heap.size, 33, none⟩ (.int .u64 (t : Nat)) = w2 := ⟨_, rfl⟩
    have z2 : Below w.heap.size w w2 := by rw [← hw2]; exact hz.out.setCell (Nat.le_refl _) _
    have t2 : Shp.tn 9 w2 w0.heap.size = true := by rw [← hw2]; exact (Shp.tn_to (Below.heap_setCell _ _ _ _ (by simp only; omega))).trans f1
    rw [hw2] at B2
    have c5 := (XF.of (Shp.rd_blk B2)).r
    clear e h1 h2 h3 B2
    go_enter Tryz.func95, Tryz.ntmps95
    go_wp2_with fail
    try rw [hw0]
    try rw [hw1]
    go_wp2_with fail
    try rw [hw2]
    clear hw2
    go_wp2_with fail
    obtain ⟨r9, z9⟩ := fin.out w2 { x.r with a := t } z2 t2
    refine bodyPost_ret (v := .agg (rSh.v { x.r with a := t })) (by rw [results_cell1 rfl]; simp [asAddr, Result.andThen, lvr_ofh r9]) rfl ⟨rfl, z9⟩
  ·have e : D.fkd x t = x.r := by unfold D.fkd; rw [if_neg (by simp [h2])]
   rw [e]
   have i1 : ((x.r.k : Int) == 4) = true := by simp; omega
   have i2 : ((x.r.a : Int) == 0) = false := by simp; omega
   clear e h1 h2
   go_enter Tryz.func95, Tryz.ntmps95
   go_wp2_with fail
   try rw [hw0]
   try rw [hw1]
   go_wp2_with fail
   obtain ⟨r9, z9⟩ := fin.out w1 x.r hz.out f1
   refine bodyPost_ret (v := .agg (rSh.v x.r)) (by rw [results_cell1 rfl]; simp [asAddr, Result.andThen, lvr_ofh r9]) rfl ⟨rfl, z9⟩
 ·have e : D.fkd x t = x.r := by unfold D.fkd; rw [if_neg (by simp [h1])]
  rw [e]
  have i1 : ((x.r.k : Int) == 4) = false := by simp; omega
  clear e h1
  go_enter Tryz.func95, Tryz.ntmps95
  go_wp2_with fail
  try rw [hw0]
  try rw [hw1]
  go_wp2_with fail
  obtain ⟨r9, z9⟩ := fin.out w1 x.r hz.out f1
  refine bodyPost_ret (v := .agg (rSh.v x.r)) (by rw [results_cell1 rfl]; simp [asAddr, Result.andThen, lvr_ofh r9]) rfl ⟨rfl, z9⟩
end Go.Proofs.YtjlaffgbmcpldaaGreatDoor
set_option linter.unusedVariables false
set_option linter.unusedSimpArgs false
set_option maxRecDepth 100000
namespace Go.Proofs.YtjlaffgbmcpldaaGreatDoor
open Go.RowKit

theorem put_kins (k : D.Ky) (v : Vl) (p : D.Ky → Vl) : ∀ {l : List D.Ky}, D.Kup l → Cr.put k v (l.map fun y => (y, p y)) = (D.kins k l).map fun y => (y, if y = k then v else p y)
 | [], _ => by simp [Cr.put, D.kins]
 | e :: l, h => by
  have hne : ∀ m : List D.Ky, (∀ x ∈ m, x ≠ k) → (m.map fun y => (y, p y)) = m.map fun y => (y, if y = k then v else p y) := fun m hm => List.map_congr_left fun y hy => by rw [if_neg (hm y hy)]
  simp only [List.map_cons, Cr.put, D.kins]
  by_cases h1 : Cr.lt e k = true
  ·rw [if_pos h1, if_pos h1, put_kins k v p (List.pairwise_cons.1 h).2]
   simp only [List.map_cons]
   rw [if_neg (Cr.lt_ne h1)]
  ·rw [if_neg h1, if_neg h1]
   by_cases h2 : e = k
   ·subst h2
    rw [if_pos rfl, if_pos rfl]
    simp only [List.map_cons]
    rw [if_pos trivial, hne l fun x hx => h.ne x hx]
   ·rw [if_neg h2, if_neg h2]
    simp only [List.map_cons]
    rw [if_pos trivial, if_neg h2]
    have h3 := Cr.lt_tot h2 (by simpa using h1)
    rw [hne l fun x hx e2 => by
     subst e2
     have := (List.pairwise_cons.1 h).1 x hx
     rw [Cr.lt_asym this] at h3; cases h3]
def qup (q : D.Ky → Qd) (k : D.Ky) (d : Qd) : D.Ky → Qd := fun y => if y = k then d else q y
theorem qup_at (q : D.Ky → Qd) (k : D.Ky) (d : Qd) : qup q k d k = d := if_pos rfl
theorem qup_ne (q : D.Ky → Qd) {k y : D.Ky} (d : Qd) (h : y ≠ k) : qup q k d y = q y := if_neg h
def fup (f : D.Ky → List D.Vn) (k : D.Ky) (l : List D.Vn) : D.Ky → List D.Vn := fun y => if y = k then l else f y
section
variable {base s g : Nat} {w w' : World} {o : Option Tk} {q : D.Ky → Qd} {lv : Int} {last : Nat} {ks : List D.Ky} {f : D.Ky → List D.Vn} {M : D.Sm}
theorem SK.low (h : SK base w s g o q lv last ks f) {k : D.Ky} (hk : k ∈ ks) : base ≤ (q k).b ∧ ∀ i, at_ (q k).A i → base ≤ i ∧ i < w.heap.size := ⟨(h.cn k hk).gb, fun i hi => (ow_at (h.cn k hk).own hi).2⟩
theorem SK.putc (h : SK base w s g o q lv last ks f) {k : D.Ky} (hk : k ∈ ks) {l : List D.Vn} (hp : Putd base (q k).b (q k).A w l w') : (∃ q', SK base w' s g o q' lv last ks (fup f k l)) ∧ Frm base w w' := by
 obtain ⟨A', c', hC, hO, hN⟩ := hp
 have hck := h.cn k hk
 have hlow := h.low hk
 have out : ∀ {i T cs}, Blk w i T cs → T ≠ cT → T ≠ vT → w'.heap[i]? = w.heap[i]? := fun {i T cs} hB h1 h2 => hO.block i hB.lt fun e => by
  rcases e with e | e
  ·exact ty_ne hB hck.blk.out h1 e
  ·obtain ⟨ds, e2⟩ := ow_block hck.own e
   exact ty_ne hB e2 h2 rfl
 refine ⟨⟨qup q k ⟨(q k).b, A', c'⟩, ⟨(out h.blk (by decide) (by decide)).trans h.blk.out⟩, h.tc.kept fun i hi => ?_, ?_, fun y hy => ?_, fun y hy x hx hne => ?_, h.bs, h.bg⟩, ?_⟩
 ·obtain ⟨cs, T, hB, hT⟩ := h.tc.ty i hi
  exact out hB (by rcases hT with rfl | rfl <;> decide) (by rcases hT with rfl | rfl <;> decide)
 ·rw [h.ls]
  refine List.map_congr_left fun y hy => ?_
  by_cases e : y = k
  ·subst e; rw [qup_at]
  ·rw [qup_ne _ _ e]
 ·by_cases e : y = k
  ·subst e
   rw [qup_at, show fup f y l y = l from if_pos rfl]
   exact hC
  ·rw [qup_ne _ _ e, show fup f k l y = f y from if_neg e]
   obtain ⟨a1, a2⟩ := h.ap y hy k hk e
   obtain ⟨b1, b2⟩ := h.ap k hk y hy (Ne.symm e)
   refine (h.cn y hy).only hO (fun c => ?_) fun i hi c => ?_
   ·rcases c with c | c
    ·exact a1 c
    ·obtain ⟨ds, e2⟩ := ow_block hck.own c
     exact ty_ne (h.cn y hy).blk e2 (by decide) rfl
   ·rcases c with c | c
    ·obtain ⟨ds, e2⟩ := ow_block (h.cn y hy).own hi
     exact ty_ne hck.blk e2 (by decide) c.symm
    ·exact a2 i hi c
 ·have key : ∀ z, z ∈ ks → z ≠ k → ∀ i, at_ (q z).A i → ¬ at_ A' i := fun z hz hzk i hi c => by
   rcases hN i c with hn | hn
   ·exact (h.ap z hz k hk hzk).2 i hi hn
   ·have := ((h.low hz).2 i hi).2; omega
  by_cases e1 : y = k
  ·subst e1
   have e2 : x ≠ y := Ne.symm hne
   rw [qup_at, qup_ne _ _ e2]
   exact ⟨(h.ap y hy x hx hne).1, fun i hi c => key x hx e2 i c hi⟩
  ·rw [qup_ne _ _ e1]
   by_cases e2 : x = k
   ·subst e2
    rw [qup_at]
    exact ⟨(h.ap y hy x hx hne).1, key y hy e1⟩
   ·rw [qup_ne _ _ e2]
    exact h.ap y hy x hx hne
 ·refine Only.more hO fun i c => ?_
  rcases c with rfl | c
  ·exact ⟨hlow.1, _, _, _, hck.blk.out, by decide⟩
  ·obtain ⟨ds, e2⟩ := ow_block hck.own c
   exact ⟨(hlow.2 i c).1, _, _, _, e2, by decide⟩
theorem SK.newk (h : SK base w s g o q lv last ks f) (hu : D.Kup ks) {k : D.Ky} (hk : k ∉ ks) (hf : f k = []) {b : Nat} (hb : Blk w b cT #[.slice none 0 0]) (hbb : base ≤ b) (hbn : ∀ y ∈ ks, (q y).b ≠ b) {o' : Option Tk} (hp : PutC w g o k (some ⟨b, 0, none⟩) w' o') :
  SK base w' s g o' (qup q k ⟨b, none, 0⟩) lv last (D.kins k ks) f ∧ Frm base w w' := by
 have hbn0 := h.bn
 have out : ∀ {i T cs}, Blk w i T cs → T ≠ tT → T ≠ nT → w'.heap[i]? = w.heap[i]? := fun {i T cs} hB h1 h2 => hp.ov.block i hB.lt fun e => by
  obtain ⟨ds, T', hB', hT⟩ := h.tc.ty i e
  have := hB.out.symm.trans hB'.out
  injection this with this
  injection this with _ e2
  rcases hT with rfl | rfl
  ·exact h1 e2
  ·exact h2 e2
 have hO : Only (fun i => i ∈ g :: blo o) w w' := ⟨hp.ov.os, hp.ov.tape, hp.ov.output, hp.ov.size, fun i hi hn => hp.ov.block i hi hn⟩
 refine ⟨⟨⟨(out h.blk (by decide) (by decide)).trans h.blk.out⟩, hp.tc, ?_, fun y hy => ?_, fun y hy x hx hne => ?_, h.bs, fun i hi => ?_⟩, ?_⟩
 ·rw [hp.ls, h.ls, put_kins k _ _ hu]
  refine List.map_congr_left fun y hy => ?_
  by_cases e : y = k
  ·subst e; rw [if_pos rfl, qup_at]
  ·rw [if_neg e, qup_ne _ _ e]
 ·by_cases e : y = k
  ·subst e
   rw [qup_at, hf]
   exact ⟨⟨(out hb (by decide) (by decide)).trans hb.out⟩, Ow.nil _ 11 (Nat.le_trans hbn0 hp.ov.size), hbb, D.Srt.nil, by simp, by simp⟩
  ·rw [qup_ne _ _ e]
   have hy2 : y ∈ ks := by
    rcases (D.kins_mem y).1 hy with rfl | hy
    ·exact absurd rfl e
    ·exact hy
   refine (h.cn y hy2).only hO (fun c => ?_) fun i hi c => ?_
   ·obtain ⟨ds, T', hB', hT⟩ := h.tc.ty _ c
    exact ty_ne (h.cn y hy2).blk hB'.out (by rcases hT with rfl | rfl <;> decide) rfl
   ·obtain ⟨ds, T', hB', hT⟩ := h.tc.ty _ c
    obtain ⟨es, e2⟩ := ow_block (h.cn y hy2).own hi
    exact ty_ne hB' e2 (by rcases hT with rfl | rfl <;> decide) rfl
 ·have inn : ∀ z, z ∈ D.kins k ks → z ≠ k → z ∈ ks := fun z hz hn => by
   rcases (D.kins_mem z).1 hz with rfl | hz
   ·exact absurd rfl hn
   ·exact hz
  have nn : ∀ i, ¬ at_ (none : Option Addr) i := fun i ⟨_, h, _⟩ => by cases h
  by_cases e1 : y = k
  ·subst e1
   rw [qup_at, qup_ne _ _ (Ne.symm hne)]
   exact ⟨fun e => hbn x (inn x hx (Ne.symm hne)) e.symm, fun i hi => absurd hi (nn i)⟩
  ·rw [qup_ne _ _ e1]
   by_cases e2 : x = k
   ·subst e2
    rw [qup_at]
    exact ⟨hbn y (inn y hy e1), fun i _ => nn i⟩
   ·rw [qup_ne _ _ e2]
    exact h.ap y (inn y hy e1) x (inn x hx e2) hne
 ·rcases List.mem_cons.1 hi with rfl | hi
  ·exact h.bg _ (by simp)
  ·rcases hp.old i hi with hi | hi
   ·exact h.bg i (by simp [hi])
   ·omega
 ·refine Only.more hO fun i c => ?_
  obtain ⟨ds, T', hB', hT⟩ := h.tc.ty _ c
  exact ⟨h.bg i c, _, _, _, hB'.out, by rcases hT with rfl | rfl <;> decide⟩
end
end Go.Proofs.YtjlaffgbmcpldaaGreatDoor
