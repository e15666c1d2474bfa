/-
  
-/
import Derived.Test.YtjlaffgbmcpldaaGreatDoorG31
import Derived.Test.YtjlaffgbmcpldaaGreatDoorG38
import Derived.Test.YtjlaffgbmcpldaaGreatDoorG21
import Derived.Deep.Slices
import Derived.Deep.Fields
import Derived.ChangeSame
set_option linter.unusedVariables false
set_option linter.unusedSimpArgs false
set_option maxRecDepth 100000
namespace Go.Proofs.YtjlaffgbmcpldaaGreatDoor
open Go.RowKit
namespace D
def k1 : Ky := mkK 1 0 0 Nm.D.zero zero
def r1 : Rc := ⟨1, 0, 1, 0, 0, false, 0, 0, ⟨#[]⟩⟩
def x1 : Wt := ⟨k1, false, r1⟩
def x2 : Wt := ⟨k1, true, zRc⟩
def m1 : Sm := Sm.zero.app [x1]
def m2 : Sm := m1.app [x2]
theorem kr1 : kright k1 = true := by decide +kernel
theorem wg1 : wwg x1 = 0 := by
 unfold wwg
 rw [show kright x1.k = true from kr1]
 decide +kernel
theorem wg2 : wwg x2 = 0 := by
 unfold wwg
 rw [show kright x2.k = true from kr1]
 decide +kernel
theorem sk1 : sck [x1] = 0 := by simp [sck, wck, wg1]
theorem sk2 : sck [x2] = 0 := by simp [sck, wck, wg2]
theorem xw1 : ∀ x ∈ [x1], x.r.wf := by
 intro x hx
 simp at hx
 subst hx
 exact ⟨by decide, by decide, by decide, by decide, by decide, by decide, by decide⟩
theorem xw2 : ∀ x ∈ [x2], x.r.wf := by
 intro x hx
 simp at hx
 subst hx
 exact ⟨by decide, by decide, by decide, by decide, by decide, by decide, by decide⟩
theorem g1 : grw Sm.zero [x1] = 1 := by
 unfold grw
 simp [dlt, Sm.live, Sm.zero, lvn, x1]
theorem f1 : m1.f k1 = [vof x1 1] := by
 have := Sm.app_in (M := Sm.zero) sk1 (x := x1) (by simp)
 exact this
theorem l1 : (m1.live : Int) = 1 := by
 have := Sm.app_live Sm.zero_wf sk1 xw1 (by decide)
 rw [g1] at this
 exact this
theorem m1_wf : m1.wf := Sm.app_wf Sm.zero_wf sk1 xw1 (by decide)
theorem g2 : grw m1 [x2] = 0 := by
 rw [grw_eq, l1]
 have : dlt m1 x2 = -1 := by
  unfold dlt
  rw [show m1.f x2.k = [vof x1 1] from f1]
  rfl
 simp [grs, this]
theorem e1 : Sm.zero.err [x1] = 0 := by unfold Sm.err; rw [sk1, g1]; rfl
theorem e2 : m1.err [x2] = 0 := by unfold Sm.err; rw [sk2, g2]; rfl
theorem p1 : Sm.zero.pub [x1] = m1 := by unfold Sm.pub; rw [if_pos e1]; rfl
theorem p2 : m1.pub [x2] = m2 := by unfold Sm.pub; rw [if_pos e2]; rfl
theorem t1 : Sm.zero.time [x1] = 1 := by unfold Sm.time; rw [if_pos e1]; rfl
theorem t2 : m1.time [x2] = 2 := by unfold Sm.time; rw [if_pos e2]; rfl
theorem f2 : m2.f k1 = [vof x1 1, vof x2 2] := by
 have := Sm.app_in (M := m1) sk2 (x := x2) (by simp)
 rw [show m1.f x2.k = [vof x1 1] from f1] at this
 exact this
theorem l2 : m2.live = 0 := by
 have := Sm.app_live m1_wf sk2 xw2 (by decide)
 rw [g2] at this
 exact Int.ofNat_inj.1 this
theorem s1 : seen (m2.f k1) 1 = ⟨1, false, r1⟩ := by rw [f2]; rfl
theorem s2 : seen (m2.f k1) 2 = ⟨2, true, zRc⟩ := by rw [f2]; rfl
theorem n2 : nwt (m2.f k1) = 2 := by rw [f2]; rfl
theorem ks1 : m1.ks.length ≤ 1 := by decide
end D
theorem run_bdr_1 (w : World) : (bdrh #[(0, .int .u8 1), (2, .int .u8 1)]).run Tryz.prog w = .ok (.agg (rSh.v D.r1)) w := by
 simp [bdrh, rv_eq, D.r1, Instr.build, go_sem]
theorem run_bdk_one (w : World) : (bdk #[(0, .int .u8 1)]).run Tryz.prog w = .ok (.agg (kS.v D.k1)) w := run_bdk_1 w 1 (by decide)
theorem bdx_list (w : World) (r : D.Rc) : ∀ l : List Value, l.length = 25 → (bdx #[(0, .agg l.toArray), (2, .agg (rSh.v r))]).run Tryz.prog w = .ok (.agg (l ++ .bool false :: rcellsh r).toArray) w
 | [a0, a1, a2, a3, a4, a5, a6, a7, a8, a9, a10, a11, a12, a13, a14, a15, a16, a17, a18, a19, a20, a21, a22, a23, a24], _ => by
  rw [show rSh.v r = (rcellsh r).toArray from rfl]
  simp [bdx, rcellsh, Instr.build, go_sem]
theorem run_bdx_r (w : World) (k : D.Ky) (r : D.Rc) : (bdx #[(0, .agg (kS.v k)), (2, .agg (rSh.v r))]).run Tryz.prog w = .ok (.agg (xS.v ⟨k, false, r⟩)) w := bdx_list w r (bys k.l) (by rw [bys_len, k.len])
theorem bdxd_list (w : World) (b : Bool) : ∀ l : List Value, l.length = 25 → (bdx #[(0, .agg l.toArray), (1, .bool b)]).run Tryz.prog w = .ok (.agg (l ++ .bool b :: rcellsh D.zRc).toArray) w
 | [a0, a1, a2, a3, a4, a5, a6, a7, a8, a9, a10, a11, a12, a13, a14, a15, a16, a17, a18, a19, a20, a21, a22, a23, a24], _ => by
  simp [bdx, rcellsh, D.zRc, Instr.build, go_sem]
theorem run_bdx_d (w : World) (k : D.Ky) (b : Bool) : (bdx #[(0, .agg (kS.v k)), (1, .bool b)]).run Tryz.prog w = .ok (.agg (xS.v ⟨k, b, D.zRc⟩)) w := bdxd_list w b (bys k.l) (by rw [bys_len, k.len])
theorem xr_one (w : World) (x : D.Wt) (n : Nat) (hn : n = w.heap.size) : XR (w.alloc (.cells (xS.v x) 77)) (some ⟨n, 0, none⟩) 1 [x] := by
 subst hn
 exact ⟨Shp.row_new (S := xS) w 77 w.heap.size [x] rfl (xS.v x) (by simp [Shp.rcs, Shp.v]), fun ad ha _ ⟨cs, T, f, h2, h3⟩ => by
  injection ha with ha
  subst ha
  exact ty_ne (Blk.new w 77 (xS.v x)) h2 (fun e => by subst e; revert h3; decide) rfl⟩
theorem Frm.bel {base : Nat} {w0 w w' : World} (f : Frm base w w') (h : Below base w0 w) (hb : base ≤ w.heap.size) : Below base w0 w' := h.trans (f.below hb)
theorem kn_read1 {w : World} {s base : Nat} (h : SM base w s D.m2) : Calls Tryz.prog 40 #[.pointer (some ⟨s, 0, none⟩), .agg (kS.v D.k1), .int .u64 1] w fun e w' => e = .returned (.tuple #[.agg (rSh.v D.r1), .bool true]) ∧ Below w.heap.size w w' := by
 have := sread_any (SO.of h) (by decide) D.k1 1
 rw [D.s1] at this
 exact this
theorem kn_read2 {w : World} {s base : Nat} (h : SM base w s D.m2) : Calls Tryz.prog 40 #[.pointer (some ⟨s, 0, none⟩), .agg (kS.v D.k1), .int .u64 2] w fun e w' => e = .returned (.tuple #[.agg (rSh.v D.zRc), .bool false]) ∧ Below w.heap.size w w' := by
 have := sread_any (SO.of h) (by decide) D.k1 2
 rw [D.s2] at this
 exact this
theorem kn_live {w : World} {s base : Nat} (h : SM base w s D.m2) : Calls Tryz.prog 36 #[.pointer (some ⟨s, 0, none⟩)] w fun e w' => e = .returned (.int .i64 0) ∧ Below w.heap.size w w' := by
 have := slive_any (SO.of h)
 rw [D.l2] at this
 exact this
theorem kn_newest {w : World} {s base : Nat} (h : SM base w s D.m2) : Calls Tryz.prog 42 #[.pointer (some ⟨s, 0, none⟩), .agg (kS.v D.k1)] w fun e w' => e = .returned (.int .u64 2) ∧ Below w.heap.size w w' := by
 have := snewest_any (SO.of h) (by decide) D.k1
 rw [D.n2] at this
 exact this
theorem kn_pub1 (hR : KRt) {w W : World} {s base n : Nat} (h : SM base w s .zero) (hb : Below w.heap.size w W) (hn : n = W.heap.size) : Calls Tryz.prog 17 #[.pointer (some ⟨s, 0, none⟩), .slice (some ⟨n, 0, none⟩) 1 1] (W.alloc (.cells (xS.v D.x1) 77)) fun e w' => e = .returned (.tuple #[.int .u64 1, .int .i64 0]) ∧ SM base w' s D.m1 ∧ Frm base w w' := by
 refine (spub_any (c := 1) hR ((h.on hb).on (below_alloc_ W (.cells (xS.v D.x1) 77))) (by decide) (by decide) (xr_one W D.x1 n hn) D.xw1 (by decide)).mono ?_
 rw [D.t1, D.e1, D.p1]
 rintro e w' ⟨h1, h2, h3⟩
 exact ⟨h1, h2, Frm.off (below_up hb hb.size (below_alloc_ _ _)) h3⟩
theorem kn_pub2 (hR : KRt) {w W : World} {s base n : Nat} (h : SM base w s D.m1) (hb : Below w.heap.size w W) (hn : n = W.heap.size) : Calls Tryz.prog 17 #[.pointer (some ⟨s, 0, none⟩), .slice (some ⟨n, 0, none⟩) 1 1] (W.alloc (.cells (xS.v D.x2) 77)) fun e w' => e = .returned (.tuple #[.int .u64 2, .int .i64 0]) ∧ SM base w' s D.m2 ∧ Frm base w w' := by
 refine (spub_any (c := 1) hR ((h.on hb).on (below_alloc_ W (.cells (xS.v D.x2) 77))) (by decide) (Nat.le_trans D.ks1 (by decide)) (xr_one W D.x2 n hn) D.xw2 (by decide)).mono ?_
 rw [D.t2, D.e2, D.p2]
 rintro e w' ⟨h1, h2, h3⟩
 exact ⟨h1, h2, Frm.off (below_up hb hb.size (below_alloc_ _ _)) h3⟩
attribute [local go_sem ↓] Go.wp_at_zero Go.wp_at_succ ld_k lv_k st_k eq_k ne_k bd_k ld_b lv_b st_b eq_b ne_b bd_25 ld_r lv_r st_rk eq_rk ne_rk bd_r ld_p lv_p st_px bd_p Nm.ld_a Nm.ld_n Nm.st_a Nm.st_n Nm.eq_a Nm.eq_n Nm.ne_a Nm.ne_n Nm.lv_a Nm.lv_n ld_a ld_n st_a st_n eq_a eq_n ne_a ne_n lv_a lv_n ld_l lv_l st_l bd_l bd_n bs_k ld_v lv_v st_v ne_v bd_v bs_v ld_rh ld_d lv_rh lv_d st_r st_d ne_rh eq_rh ne_d bd_rh bd_d ld_x lv_x st_x bd_x bs_x ld_e lv_e st_e bd_e bs_e ne_e
attribute [local go_sem] run_ldk run_lvk run_stk run_eqk run_nek run_bdk_z run_ldb run_lvb run_stb run_eqb run_neb run_ldr run_lvr run_strk run_eqrk run_nerk run_bdr_z run_ldp run_lvp run_stpx Nm.run_ld_a Nm.run_ld_n Nm.run_st_n Nm.run_eq_a Nm.run_eq_n Nm.run_ne_a Nm.run_ne_n Nm.run_lv_a Nm.run_lv_n Nm.rd_new Nm.rd_old Nm.rd_drew Nm.rd_drewN run_ld_a run_ld_n run_sw_a run_sw_n run_eq_a run_eq_n run_ne_a run_ne_n run_lv_a run_lv_n st_z ne_z eq_z rd_new rd_old rd_drew rd_drewN Shp.rd_new Shp.rd_old Shp.rd_drew Shp.rd_drewN Shp.rd_set Shp.tn_new Shp.tn_old Shp.tn_drew Shp.tn_drewN tn_new tn_old tn_drew tn_drewN rd_set setRow_alloc run_stn3 run_stt15 run_lvl run_ldl run_stl run_bdl run_bdn run_bdn0 run_bsk Shp.rd_extk cell_ext run_ldv run_lvv run_stv run_nev run_bdv_z run_bdv_d run_bdv_r run_bsv1 run_bsv0 run_ldrh run_ldd run_lvrh run_lvd run_str run_std run_nerh run_eqrh run_ned run_bdr0 run_bdd0 run_bdr1 run_bdd1 run_bdd9 run_ldx run_lvx run_stx run_lde run_lve run_bde run_bse1 run_bdv_3 Shp.rd_extk cell_ext
attribute [local go_sem] run_bsx1 run_bdr_1 run_bdk_one run_bdx_r run_bdx_d
set_option maxHeartbeats 8000000 in
theorem known_any (hR : KRt) (w : World) : Calls Tryz.prog 9 #[] w fun e w' => e = .returned (.bool true) ∧ Below w.heap.size w w' := by
 have CN := Lib.hid (snew_any w.heap.size w (Nat.le_refl _))
 have hX1 := Lib.hid D.xw1
 have hX2 := Lib.hid D.xw2
 have eX1 : (⟨D.k1, false, D.r1⟩ : D.Wt) = D.x1 := rfl
 have eX2 : (⟨D.k1, true, D.zRc⟩ : D.Wt) = D.x2 := rfl
 go_enter Tryz.func9, Tryz.ntmps9
 go_wp2_with (go_at_call 13; (with_reducible refine CN.out.mono ?_); rintro e w1 ⟨rfl, hS1, b1⟩; have HS1 := Lib.hid hS1; have B1 := Lib.hid b1; clear hS1 b1; have k1_ := Shp.rd_new (S := kS) w1 w1.heap.size 39 D.k1 rfl)
 have K2 := Lib.hid (Blk.new w1 39 (kS.v D.k1))
 have HS2 := Lib.hid (HS1.out.on (below_alloc_ w1 (.cells (kS.v D.k1) 39)))
 have B2 := Lib.hid (below_up B1.out B1.out.size (below_alloc_ w1 (.cells (kS.v D.k1) 39)))
 have C1 := kn_pub1 hR HS2.out (Below.refl _ _) (n := w1.heap.size + 1) (by simp)
 obtain ⟨gk, hgk⟩ : ∃ gk, w1.heap.size = gk := ⟨_, rfl⟩
 obtain ⟨w2, hw2⟩ : ∃ w2, w1.alloc (.cells (kS.v D.k1) 39) = w2 := ⟨_, rfl⟩
 rw [hgk] at K2 C1 k1_ ⊢
 rw [hw2] at K2 HS2 B2 C1 k1_ ⊢
 have C1 := Lib.hid C1
 clear hw2 hgk k1_
 refine C1.out.mono ?_
 rintro e w3 ⟨rfl, hS3, f3⟩
 have HS3 := Lib.hid hS3
 have K3 := Lib.hid (Frm.blk f3 K2.out (by decide))
 have B3 := Lib.hid (Frm.bel f3 B2.out B2.out.size)
 have k3_ := Shp.rd_blk K3.out
 have C2 := Lib.hid (kn_pub2 hR HS3.out (Below.refl _ _) (n := w3.heap.size) rfl)
 clear hS3 f3 C1
 go_wp2_with (first
  | (go_at_call 17; (with_reducible refine C2.out.mono ?_); rintro e w4 ⟨rfl, hS4, f4⟩; have HS4 := Lib.hid hS4; have K4 := Lib.hid (Frm.blk f4 K3.out (by decide)); have B4 := Lib.hid (Frm.bel f4 B3.out B3.out.size); have k4_ := Shp.rd_blk K4.out; have C3 := Lib.hid (kn_read1 HS4.out); clear hS4 f4)
  | (go_at_call 40; (with_reducible refine C3.out.mono ?_); rintro e w5 ⟨rfl, b5⟩; have d5 := below_up b5 b5.size (below_alloc_ w5 (.cells (rSh.v D.r1) 75)); have k5_ := Shp.rd_on k4_ d5; have R5 := Blk.new w5 75 (rSh.v D.r1); have HS5 := Lib.hid (HS4.out.on d5); have B5 := Lib.hid (below_up B4.out B4.out.size d5); have C4 := Lib.hid (kn_read2 HS5.out))
  | (go_at_call 40; (with_reducible refine C4.out.mono ?_); rintro e w6 ⟨rfl, b6⟩; have d6 := below_up b6 b6.size (below_alloc_ w6 (.cells (rSh.v D.zRc) 75)); have k6_ := Shp.rd_on k5_ d6; have u6_ := (R5.on d6).c 2; rw [show (rSh.v D.r1)[2]? = some (.int .u8 1) from rfl] at u6_; have HS6 := Lib.hid (HS5.out.on d6); have B6 := Lib.hid (below_up B5.out B5.out.size d6); have C5 := Lib.hid (kn_live HS6.out))
  | (go_at_call 36; (with_reducible refine C5.out.mono ?_); rintro e w7 ⟨rfl, b7⟩; have k7_ := Shp.rd_on k6_ b7; have C6 := Lib.hid (kn_newest (HS6.out.on b7)))
  | (go_at_call 42; (with_reducible refine C6.out.mono ?_); rintro e w8 ⟨rfl, b8⟩))
 go_ret
 exact ⟨rfl, below_up (below_up B6.out B6.out.size b7) (below_up B6.out B6.out.size b7).size b8⟩
end Go.Proofs.YtjlaffgbmcpldaaGreatDoor
set_option linter.unusedVariables false
set_option linter.unusedSimpArgs false
set_option maxRecDepth 100000
namespace Go.Proofs.YtjlaffgbmcpldaaGreatDoor
open Go.RowKit
theorem kr_all : KRt := fun x w => keyright_any x w
structure D.Ask where
 p : Px
 k : Ky
 t : Nat
 m : Int
def qcells (x : D.Ask) : List Value := pcells x.p ++ (bys x.k.l ++ [.int .u64 (x.t : Nat), .int .i64 x.m])
theorem pc_len (x : D.Px) : (pcells x).length = 26 := by simp [pcells, bys_len, x.x.len]
def qS : Shp D.Ask := ⟨qcells, 53, by decide, fun x => by simp [qcells, pc_len, bys_len, x.k.len], fun {x y} h => by
 obtain ⟨p, k, t, m⟩ := x
 obtain ⟨p', k', t', m'⟩ := y
 have h1 := List.append_inj h (by simp [pc_len])
 have h2 := List.append_inj h1.2 (by simp [bys_len, D.Ky.len])
 obtain rfl := D.Ky.eq (bys_inj h2.1)
 have h3 := h2.2
 simp only [List.cons.injEq, Value.int.injEq, true_and, and_true, Int.ofNat_inj] at h3
 obtain ⟨rfl, rfl⟩ := h3
 have h4 : pS.v p = pS.v p' := congrArg List.toArray h1.1
 rw [pS.v_inj h4], fun x u hu => by
 rcases List.mem_append.1 hu with hu | hu
 ·exact pS.one x.p u hu
 ·rcases List.mem_append.1 hu with hu | hu
  ·exact bys_one _ u hu
  ·simp only [List.mem_cons, List.not_mem_nil, or_false] at hu
   rcases hu with rfl | rfl <;> rfl⟩
structure QF (w : World) (g : Nat) (x : D.Ask) : Prop where
 all : qS.rd w ⟨g, 0, none⟩ = some x
 p : pS.rd w ⟨g, 0, none⟩ = some x.p
 k : kS.rd w ⟨g, 26, none⟩ = some x.k
 t : w.cell? ⟨g, 51, none⟩ = some (.int .u64 (x.t : Nat))
 m : w.cell? ⟨g, 52, none⟩ = some (.int .i64 x.m)
theorem QF.of {w : World} {g : Nat} {x : D.Ask} (h : qS.rd w ⟨g, 0, none⟩ = some x) : QF w g x := by
 have hc : qS.At w ⟨g, 0, none⟩ x := Shp.at_of h
 have hp := pc_len x.p
 have hk : (bys x.k.l).length = 25 := by rw [bys_len, x.k.len]
 have c : ∀ j u, (qcells x)[j]? = some u → w.cell? ⟨g, j, none⟩ = some u := fun j u hu => by have := hc j u hu; rwa [add_o, Nat.zero_add] at this
 refine ⟨h, Shp.rd_of fun j u hu => ?_, Shp.rd_of fun j u hu => ?_, c 51 _ ?_, c 52 _ ?_⟩
 ·rw [add_o, Nat.zero_add]
  have hu : (pcells x.p)[j]? = some u := hu
  exact c j u (by rw [qcells, List.getElem?_append_left (List.getElem?_eq_some_iff.1 hu).1, hu])
 ·rw [add_o]
  have hu : (bys x.k.l)[j]? = some u := hu
  have hj := (List.getElem?_eq_some_iff.1 hu).1
  exact c (26 + j) u (by rw [qcells, List.getElem?_append_right (by omega), hp, Nat.add_sub_cancel_left, List.getElem?_append_left hj, hu])
 ·rw [qcells, List.getElem?_append_right (by omega), hp, List.getElem?_append_right (by omega), hk]; rfl
 ·rw [qcells, List.getElem?_append_right (by omega), hp, List.getElem?_append_right (by omega), hk]; rfl
theorem QF.on {w w' : World} {g : Nat} {x : D.Ask} (h : QF w g x) (hb : Below w.heap.size w w') : QF w' g x := .of (Shp.rd_on h.all hb)
section
variable (w : World) (k : D.Ky) (x : D.Px) (t : Nat) (m : Int)
end
attribute [local go_sem ↓] Go.wp_at_zero Go.wp_at_succ ld_k lv_k st_k eq_k ne_k bd_k ld_b lv_b st_b eq_b ne_b bd_25 ld_r lv_r st_rk eq_rk ne_rk bd_r ld_p lv_p st_px bd_p Nm.ld_a Nm.ld_n Nm.st_a Nm.st_n Nm.eq_a Nm.eq_n Nm.ne_a Nm.ne_n Nm.lv_a Nm.lv_n ld_a ld_n st_a st_n eq_a eq_n ne_a ne_n lv_a lv_n ld_l lv_l st_l bd_l bd_n bs_k ld_v lv_v st_v ne_v bd_v bs_v ld_rh ld_d lv_rh lv_d st_r st_d ne_rh eq_rh ne_d bd_rh bd_d ld_x lv_x st_x bd_x bs_x ld_e lv_e st_e bd_e bs_e ne_e
attribute [local go_sem] run_ldk run_lvk run_stk run_eqk run_nek run_bdk_z run_ldb run_lvb run_stb run_eqb run_neb run_ldr run_lvr run_strk run_eqrk run_nerk run_bdr_z run_ldp run_lvp run_stpx Nm.run_ld_a Nm.run_ld_n Nm.run_st_n Nm.run_eq_a Nm.run_eq_n Nm.run_ne_a Nm.run_ne_n Nm.run_lv_a Nm.run_lv_n Nm.rd_new Nm.rd_old Nm.rd_drew Nm.rd_drewN run_ld_a run_ld_n run_sw_a run_sw_n run_eq_a run_eq_n run_ne_a run_ne_n run_lv_a run_lv_n st_z ne_z eq_z rd_new rd_old rd_drew rd_drewN Shp.rd_new Shp.rd_old Shp.rd_drew Shp.rd_drewN Shp.rd_set Shp.tn_new Shp.tn_old Shp.tn_drew Shp.tn_drewN tn_new tn_old tn_drew tn_drewN rd_set setRow_alloc run_stn3 run_stt15 run_lvl run_ldl run_stl run_bdl run_bdn run_bdn0 run_bsk Shp.rd_extk cell_ext run_ldv run_lvv run_stv run_nev run_bdv_z run_bdv_d run_bdv_r run_bsv1 run_bsv0 run_ldrh run_ldd run_lvrh run_lvd run_str run_std run_nerh run_eqrh run_ned run_bdr0 run_bdd0 run_bdr1 run_bdd1 run_bdd9 run_ldx run_lvx run_stx run_lde run_lve run_bde run_bse1 run_bdv_3 Shp.rd_extk cell_ext
attribute [local go_sem] run_bsx1
end Go.Proofs.YtjlaffgbmcpldaaGreatDoor
set_option linter.unusedVariables false
set_option linter.unusedSimpArgs false
set_option maxRecDepth 100000
namespace Go.Proofs.YtjlaffgbmcpldaaGreatDoor
open Go.RowKit Go.ChangeShapes Go.WideShapes Go.Deep

theorem bnd_u8 {z : Int} (h : (Lit.int .u8 z).wf = true) : 0 ≤ z ∧ z < 256 := by
 simp [Lit.wf, IntKind.min, IntKind.max, IntKind.bits, IntKind.signed] at h; omega
theorem bnd_u32 {z : Int} (h : (Lit.int .u32 z).wf = true) : 0 ≤ z ∧ z < 4294967296 := by
 simp [Lit.wf, IntKind.min, IntKind.max, IntKind.bits, IntKind.signed] at h; omega
theorem bnd_u64 {z : Int} (h : (Lit.int .u64 z).wf = true) : 0 ≤ z ∧ z < 18446744073709551616 := by
 simp [Lit.wf, IntKind.min, IntKind.max, IntKind.bits, IntKind.signed] at h; omega
section
variable {H : Type} {enc : TypeId × Value → H} {w : World} {base : Nat} {spare : Nat → Bool} {held : Bool}
theorem open_rec {fuel : Nat} {cs : List Value} {x : DataW H × List MemPlace} (h : DataW.trod enc Tryz.prog w base spare held fuel 75 cs = some x) :
  ∃ r : D.Rc, cs = rcellsh r ∧ r.wf ∧ r.t.size ≤ maxLen := by
 obtain ⟨xs, n, _, _, hl, hx, hf⟩ := DataW.trod_struct Tryz.underlying75 h
 have hC : Tryz.prog.cellsOf 75 = 9 := by kernel_rfl
 have c8 : Tryz.prog.cellsOf 5 = 1 := by kernel_rfl
 have cb : Tryz.prog.cellsOf 4 = 1 := by kernel_rfl
 have c32 : Tryz.prog.cellsOf 73 = 1 := by kernel_rfl
 have c64 : Tryz.prog.cellsOf 42 = 1 := by kernel_rfl
 have cst : Tryz.prog.cellsOf 9 = 1 := by kernel_rfl
 rw [hC] at hl
 have h0 : DataW.trod enc Tryz.prog w base spare held n 5 ((cs.drop 0).take (Tryz.prog.cellsOf 5)) = xs[0]? := hf 0 _ rfl
 rw [c8] at h0
 have h1 : DataW.trod enc Tryz.prog w base spare held n 5 ((cs.drop 1).take (Tryz.prog.cellsOf 5)) = xs[1]? := hf 1 _ rfl
 rw [c8] at h1
 have h2 : DataW.trod enc Tryz.prog w base spare held n 5 ((cs.drop 2).take (Tryz.prog.cellsOf 5)) = xs[2]? := hf 2 _ rfl
 rw [c8] at h2
 have h3 : DataW.trod enc Tryz.prog w base spare held n 5 ((cs.drop 3).take (Tryz.prog.cellsOf 5)) = xs[3]? := hf 3 _ rfl
 rw [c8] at h3
 have h4 : DataW.trod enc Tryz.prog w base spare held n 5 ((cs.drop 4).take (Tryz.prog.cellsOf 5)) = xs[4]? := hf 4 _ rfl
 rw [c8] at h4
 have h5 : DataW.trod enc Tryz.prog w base spare held n 4 ((cs.drop 5).take (Tryz.prog.cellsOf 4)) = xs[5]? := hf 5 _ rfl
 rw [cb] at h5
 have h6 : DataW.trod enc Tryz.prog w base spare held n 73 ((cs.drop 6).take (Tryz.prog.cellsOf 73)) = xs[6]? := hf 6 _ rfl
 rw [c32] at h6
 have h7 : DataW.trod enc Tryz.prog w base spare held n 42 ((cs.drop 7).take (Tryz.prog.cellsOf 42)) = xs[7]? := hf 7 _ rfl
 rw [c64] at h7
 have h8 : DataW.trod enc Tryz.prog w base spare held n 9 ((cs.drop 8).take (Tryz.prog.cellsOf 9)) = xs[8]? := hf 8 _ rfl
 rw [cst] at h8
 match cs, hl with
 | [a0, a1, a2, a3, a4, a5, a6, a7, a8], _ =>
  have x0 : xs[0]? = some (xs[0]'(by rw [hx]; decide)) := List.getElem?_eq_getElem _
  rw [x0] at h0
  have x1 : xs[1]? = some (xs[1]'(by rw [hx]; decide)) := List.getElem?_eq_getElem _
  rw [x1] at h1
  have x2 : xs[2]? = some (xs[2]'(by rw [hx]; decide)) := List.getElem?_eq_getElem _
  rw [x2] at h2
  have x3 : xs[3]? = some (xs[3]'(by rw [hx]; decide)) := List.getElem?_eq_getElem _
  rw [x3] at h3
  have x4 : xs[4]? = some (xs[4]'(by rw [hx]; decide)) := List.getElem?_eq_getElem _
  rw [x4] at h4
  have x5 : xs[5]? = some (xs[5]'(by rw [hx]; decide)) := List.getElem?_eq_getElem _
  rw [x5] at h5
  have x6 : xs[6]? = some (xs[6]'(by rw [hx]; decide)) := List.getElem?_eq_getElem _
  rw [x6] at h6
  have x7 : xs[7]? = some (xs[7]'(by rw [hx]; decide)) := List.getElem?_eq_getElem _
  rw [x7] at h7
  have x8 : xs[8]? = some (xs[8]'(by rw [hx]; decide)) := List.getElem?_eq_getElem _
  rw [x8] at h8
  obtain ⟨z0, e0, _, w0⟩ := DataW.trod_int Tryz.underlying5 h0
  obtain ⟨z1, e1, _, w1⟩ := DataW.trod_int Tryz.underlying5 h1
  obtain ⟨z2, e2, _, w2⟩ := DataW.trod_int Tryz.underlying5 h2
  obtain ⟨z3, e3, _, w3⟩ := DataW.trod_int Tryz.underlying5 h3
  obtain ⟨z4, e4, _, w4⟩ := DataW.trod_int Tryz.underlying5 h4
  obtain ⟨z5, e5, _⟩ := DataW.trod_bool Tryz.underlying4 h5
  obtain ⟨z6, e6, _, w6⟩ := DataW.trod_int Tryz.underlying73 h6
  obtain ⟨z7, e7, _, w7⟩ := DataW.trod_int Tryz.underlying42 h7
  obtain ⟨z8, e8, _, w8⟩ := DataW.trod_string Tryz.underlying9 h8
  simp at e0 e1 e2 e3 e4 e5 e6 e7 e8
  subst e0 e1 e2 e3 e4 e5 e6 e7 e8
  have b0 := bnd_u8 w0
  have b1 := bnd_u8 w1
  have b2 := bnd_u8 w2
  have b3 := bnd_u8 w3
  have b4 := bnd_u8 w4
  have b6 := bnd_u32 w6
  have b7 := bnd_u64 w7
  refine ⟨⟨z0.toNat, z1.toNat, z2.toNat, z3.toNat, z4.toNat, z5, z6.toNat, z7.toNat, z8⟩, ?_, ⟨?_, ?_, ?_, ?_, ?_, ?_, ?_⟩, w8⟩
  ·simp only [rcellsh]
   rw [Int.toNat_of_nonneg b0.1, Int.toNat_of_nonneg b1.1, Int.toNat_of_nonneg b2.1, Int.toNat_of_nonneg b3.1, Int.toNat_of_nonneg b4.1, Int.toNat_of_nonneg b6.1, Int.toNat_of_nonneg b7.1]
  all_goals (simp only; omega)
theorem open_shp {α : Type} (S : Shp α) (Pr : α → Prop) (z : α) {ST T : TypeId} (hu : Tryz.prog.underlying ST = some (.slice T)) (hC : Tryz.prog.cellsOf T = S.n)
  (hel : ∀ (fuel : Nat) (cs : List Value) (x : DataW H × List MemPlace), DataW.trod enc Tryz.prog w base spare held fuel T cs = some x → ∃ r : α, cs = S.cs r ∧ Pr r)
  {fuel : Nat} {cs : List Value} {x : DataW H × List MemPlace} (h : DataW.trod enc Tryz.prog w base spare held fuel ST cs = some x) :
  ∃ (A : Option Addr) (len cap : Nat) (l : List α), cs = [.slice A len cap] ∧ Shp.Row S w A len l ∧ (∀ r ∈ l, Pr r) ∧ len ≤ cap ∧ cap ≤ maxLen := by
 rcases open_slice hu h with ⟨rfl, _⟩ | ⟨a, len, cap, m, n, D', Pl, rfl, hb, hl, hm, hmm, _, hi⟩
 ·exact ⟨none, 0, 0, [], rfl, Shp.Row.nil _ _, by simp, Nat.le_refl _, Nat.zero_le _⟩
 ·have hlm : len ≤ m := by rw [hmm]; split <;> omega
  rw [hC] at hi
  have key : ∀ i, ∃ r : α, i < len → Pr r ∧ S.At w (a.add (i * S.n)) r := by
   intro i
   by_cases hlt : i < len
   ·obtain ⟨cs', hc, ht⟩ := hi i (by omega)
    obtain ⟨r, rfl, hr⟩ := hel _ _ _ ht
    obtain ⟨_, _, hat⟩ := World.cells?_some hc
    refine ⟨r, fun _ => ⟨hr, fun j u hu => ?_⟩⟩
    have hj : j < S.n := by have := (List.getElem?_eq_some_iff.1 hu).1; rwa [S.len] at this
    have h1 := hat j (by omega)
    have h2 := (List.getElem?_eq_some_iff.1 hu).2
    rw [h1]
    simpa using hu
   ·exact ⟨z, fun h => absurd h hlt⟩
  refine ⟨some a, len, cap, (List.range len).map fun i => Classical.choose (key i), rfl, ⟨by simp, fun hn => ⟨a, rfl, ?_, fun i y hy => ?_⟩⟩, ?_, hl, by omega⟩
  ·have hu0 : (S.cs (Classical.choose (key 0)))[0]? = some ((S.cs (Classical.choose (key 0)))[0]'(by rw [S.len]; exact S.pos)) := List.getElem?_eq_getElem _
   have := World.block_lt_of_cell? w _ ((Classical.choose_spec (key 0) hn).2 0 _ hu0)
   rwa [block_of_add, block_of_add] at this
  ·rw [List.getElem?_map] at hy
   have hlt : i < len := by
    rcases Nat.lt_or_ge i len with h | h
    ·exact h
    ·rw [List.getElem?_eq_none (by simp; omega)] at hy; simp at hy
   rw [List.getElem?_range hlt] at hy
   simp at hy
   subst hy
   exact (Classical.choose_spec (key i) hlt).2
  ·intro r hr
   obtain ⟨i, hi', rfl⟩ := List.mem_map.1 hr
   exact (Classical.choose_spec (key i) (List.mem_range.1 hi')).1
end
end Go.Proofs.YtjlaffgbmcpldaaGreatDoor
