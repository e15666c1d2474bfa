/-
  
-/
import Derived.Test.YtjlaffgbmcpldaaGreatDoorG25
import Derived.Test.YtjlaffgbmcpldaaGreatDoorG26
set_option linter.unusedVariables false
set_option linter.unusedSimpArgs false
set_option maxRecDepth 100000
namespace Go.Proofs.YtjlaffgbmcpldaaGreatDoor
open Go.RowKit
attribute [local go_sem ↓] Go.wp_at_zero Go.wp_at_succ ld_k lv_k st_k eq_k ne_k bd_k ld_b lv_b st_b eq_b ne_b bd_25 ld_r lv_r st_rk eq_rk ne_rk bd_r ld_p lv_p st_px bd_p Nm.ld_a Nm.ld_n Nm.st_a Nm.st_n Nm.eq_a Nm.eq_n Nm.ne_a Nm.ne_n Nm.lv_a Nm.lv_n ld_a ld_n st_a st_n eq_a eq_n ne_a ne_n lv_a lv_n ld_l lv_l st_l bd_l bd_n bs_k ld_v lv_v st_v ne_v bd_v bs_v ld_rh ld_d lv_rh lv_d st_r st_d ne_rh eq_rh ne_d bd_rh bd_d ld_x lv_x st_x bd_x bs_x ld_e lv_e st_e bd_e bs_e ne_e
attribute [local go_sem] run_ldk run_lvk run_stk run_eqk run_nek run_bdk_z run_ldb run_lvb run_stb run_eqb run_neb run_ldr run_lvr run_strk run_eqrk run_nerk run_bdr_z run_ldp run_lvp run_stpx Nm.run_ld_a Nm.run_ld_n Nm.run_st_n Nm.run_eq_a Nm.run_eq_n Nm.run_ne_a Nm.run_ne_n Nm.run_lv_a Nm.run_lv_n Nm.rd_new Nm.rd_old Nm.rd_drew Nm.rd_drewN run_ld_a run_ld_n run_sw_a run_sw_n run_eq_a run_eq_n run_ne_a run_ne_n run_lv_a run_lv_n st_z ne_z eq_z rd_new rd_old rd_drew rd_drewN Shp.rd_new Shp.rd_old Shp.rd_drew Shp.rd_drewN Shp.rd_set Shp.tn_new Shp.tn_old Shp.tn_drew Shp.tn_drewN tn_new tn_old tn_drew tn_drewN rd_set setRow_alloc run_stn3 run_stt15 run_lvl run_ldl run_stl run_bdl run_bdn run_bdn0 run_bsk Shp.rd_extk cell_ext run_ldv run_lvv run_stv run_nev run_bdv_z run_bdv_d run_bdv_r run_bsv1 run_bsv0 run_ldrh run_ldd run_lvrh run_lvd run_str run_std run_nerh run_eqrh run_ned run_bdr0 run_bdd0 run_bdr1 run_bdd1 run_bdd9 run_ldx run_lvx run_stx run_lde run_lve run_bde run_bse1 run_bdv_3 Shp.rd_extk cell_ext
structure Sn (w W : World) (b1 b2 b3 b4 : Nat) (p : Option Addr) (t : Nat) (most : Int) (A : Option Addr) (c : Nat) (l : List Ent) : Prop where
 bel : Below w.heap.size w W
 c1 : Blk W b1 45 #[.pointer p]
 c2 : Blk W b2 42 #[.int .u64 (t : Nat)]
 c3 : Blk W b3 112 #[.slice A l.length c]
 c4 : Blk W b4 3 #[.int .i64 most]
 ow : Ow 118 34 w.heap.size W A l.length c (eS.rcs l)
 ge : w.heap.size ≤ b1 ∧ w.heap.size ≤ b2 ∧ w.heap.size ≤ b3 ∧ w.heap.size ≤ b4
section
variable {w W W' : World} {b1 b2 b3 b4 : Nat} {p : Option Addr} {t : Nat} {most : Int} {A : Option Addr} {c : Nat} {l : List Ent}
theorem Sn.on (h : Sn w W b1 b2 b3 b4 p t most A c l) (hb : Below W.heap.size W W') : Sn w W' b1 b2 b3 b4 p t most A c l :=
 ⟨below_up h.bel h.bel.size hb, h.c1.on hb, h.c2.on hb, h.c3.on hb, h.c4.on hb, h.ow.on hb, h.ge⟩
theorem Sn.app {A' : Option Addr} {c' : Nat} {x : Ent} (h : Sn w W b1 b2 b3 b4 p t most A c l) (ho : Ow 118 34 w.heap.size W' A' (l.length + 1) c' (eS.rcs l ++ eS.cs x)) (hg : W.grownBy W' (Value.slice A l.length c).ownBlock) :
  Sn w (W'.setCell ⟨b3, 0, none⟩ (.slice A' (l.length + 1) c')) b1 b2 b3 b4 p t most A' c' (l ++ [x]) := by
 have k : ∀ {g T cs}, Blk W g T cs → T ≠ 118 → Blk W' g T cs := fun {g T cs} hB hT => ⟨(hg.block g hB.lt fun e => by
  obtain ⟨cs2, h2⟩ := ow_block h.ow (own_at e.symm)
  have := h2.symm.trans hB.out
  injection this with this
  injection this with _ h3
  exact hT h3.symm).trans hB.out⟩
 have hB3 := k h.c3 (by decide)
 have hl : (l ++ [x]).length = l.length + 1 := by simp
 have hne : ∀ {g T cs}, Blk W' g T cs → T ≠ 112 → g ≠ b3 := fun hB hT e => by
  subst e
  have := hB.out.symm.trans hB3.out
  injection this with this
  injection this with _ h3
  exact hT h3
 have s : ∀ {g T cs}, Blk W' g T cs → T ≠ 112 → Blk (W'.setCell ⟨b3, 0, none⟩ (.slice A' (l.length + 1) c')) g T cs := fun hB hT => ⟨(Below.heap_setCell _ _ _ _ (hne hB hT)).trans hB.out⟩
 refine ⟨?_, s (k h.c1 (by decide)) (by decide), s (k h.c2 (by decide)) (by decide), by rw [hl]; exact hB3.set_ _, s (k h.c4 (by decide)) (by decide), ?_, h.ge⟩
 ·have hW : Below w.heap.size w W' := h.bel.grown hg h.bel.size fun r hr => (h.ow.lt r hr).1
  exact hW.setCell (show w.heap.size ≤ b3 from h.ge.2.2.1) _
 ·rw [hl, rcs_snoc]
  refine ho.kept (by simp [World.setCell]) fun q hq => Below.heap_setCell _ _ _ _ fun e => ?_
  obtain ⟨cs2, h2⟩ := ow_block ho (own_at hq)
  have e : q = b3 := e
  subst e
  have := h2.symm.trans hB3.out
  injection this with this
  injection this with _ h3
  exact absurd h3 (by decide)
end
end Go.Proofs.YtjlaffgbmcpldaaGreatDoor
namespace Go.Proofs.YtjlaffgbmcpldaaGreatDoor
open Go.RowKit
theorem xv_34 (x : D.Wt) : (xS.v x)[34]? = some (.string x.r.t) := by
 have hl := x.k.len
 show (xcells x).toArray[34]? = _
 rw [List.getElem?_toArray, xcells, List.getElem?_append_right (by rw [bys_len, hl]; omega), bys_len, hl]
 rfl
theorem xv_set34 (x : D.Wt) (t : ByteArray) : (xS.v x).setIfInBounds 34 (.string t) = xS.v ⟨x.k, x.d, { x.r with t := t }⟩ := by
 have hl := x.k.len
 show (xcells x).toArray.setIfInBounds 34 (.string t) = (xcells _).toArray
 rw [List.setIfInBounds_toArray]
 congr 1
 simp only [xcells]
 rw [List.set_append_right _ _ (by rw [bys_len, hl]; omega), bys_len, hl]
 simp [rcellsh]
theorem bsx_list (w : World) (d : Bool) (r : D.Rc) : ∀ l : List Value, l.length = 25 → (bsx 1 #[(0, .agg (l ++ .bool d :: rcellsh r).toArray)]).run Tryz.prog w = .ok (.slice (some ⟨w.heap.size, 0, none⟩) 1 1) (w.alloc (.cells (l ++ .bool d :: rcellsh r).toArray 77))
 | [a0, a1, a2, a3, a4, a5, a6, a7, a8, a9, a10, a11, a12, a13, a14, a15, a16, a17, a18, a19, a20, a21, a22, a23, a24], _ => by
  simp [bsx, rcellsh, Instr.buildSlice, go_sem]
theorem run_bsx1 (w : World) (x : D.Wt) : (bsx 1 #[(0, .agg (xS.v x))]).run Tryz.prog w = .ok (.slice (some ⟨w.heap.size, 0, none⟩) 1 1) (w.alloc (.cells (xS.v x) 77)) := bsx_list w x.d x.r (bys x.k.l) (by rw [bys_len, x.k.len])
end Go.Proofs.YtjlaffgbmcpldaaGreatDoor
namespace Go.Proofs.YtjlaffgbmcpldaaGreatDoor
open Go.RowKit
namespace D
def k1 : Ky := mkK 1 0 0 Nm.D.zero zero
def r1 : Rc := ⟨1, 0, 1, 0, 0, false, 0, 0, ⟨#[]⟩⟩
def x1 : Wt := ⟨k1, false, r1⟩
def x2 : Wt := ⟨k1, true, zRc⟩
def m1 : Sm := Sm.zero.app [x1]
def m2 : Sm := m1.app [x2]
theorem kr1 : kright k1 = true := by decide +kernel
theorem wg1 : wwg x1 = 0 := by
 unfold wwg
 rw [show kright x1.k = true from kr1]
 decide +kernel
theorem wg2 : wwg x2 = 0 := by
 unfold wwg
 rw [show kright x2.k = true from kr1]
 decide +kernel
theorem sk1 : sck [x1] = 0 := by simp [sck, wck, wg1]
theorem sk2 : sck [x2] = 0 := by simp [sck, wck, wg2]
theorem xw1 : ∀ x ∈ [x1], x.r.wf := by
 intro x hx
 simp at hx
 subst hx
 exact ⟨by decide, by decide, by decide, by decide, by decide, by decide, by decide⟩
theorem xw2 : ∀ x ∈ [x2], x.r.wf := by
 intro x hx
 simp at hx
 subst hx
 exact ⟨by decide, by decide, by decide, by decide, by decide, by decide, by decide⟩
theorem g1 : grw Sm.zero [x1] = 1 := by
 unfold grw
 simp [dlt, Sm.live, Sm.zero, lvn, x1]
theorem f1 : m1.f k1 = [vof x1 1] := by
 have := Sm.app_in (M := Sm.zero) sk1 (x := x1) (by simp)
 exact this
theorem l1 : (m1.live : Int) = 1 := by
 have := Sm.app_live Sm.zero_wf sk1 xw1 (by decide)
 rw [g1] at this
 exact this
theorem m1_wf : m1.wf := Sm.app_wf Sm.zero_wf sk1 xw1 (by decide)
theorem g2 : grw m1 [x2] = 0 := by
 rw [grw_eq, l1]
 have : dlt m1 x2 = -1 := by
  unfold dlt
  rw [show m1.f x2.k = [vof x1 1] from f1]
  rfl
 simp [grs, this]
theorem e1 : Sm.zero.err [x1] = 0 := by unfold Sm.err; rw [sk1, g1]; rfl
theorem e2 : m1.err [x2] = 0 := by unfold Sm.err; rw [sk2, g2]; rfl
theorem p1 : Sm.zero.pub [x1] = m1 := by unfold Sm.pub; rw [if_pos e1]; rfl
theorem p2 : m1.pub [x2] = m2 := by unfold Sm.pub; rw [if_pos e2]; rfl
theorem t1 : Sm.zero.time [x1] = 1 := by unfold Sm.time; rw [if_pos e1]; rfl
theorem t2 : m1.time [x2] = 2 := by unfold Sm.time; rw [if_pos e2]; rfl
theorem f2 : m2.f k1 = [vof x1 1, vof x2 2] := by
 have := Sm.app_in (M := m1) sk2 (x := x2) (by simp)
 rw [show m1.f x2.k = [vof x1 1] from f1] at this
 exact this
theorem l2 : m2.live = 0 := by
 have := Sm.app_live m1_wf sk2 xw2 (by decide)
 rw [g2] at this
 exact Int.ofNat_inj.1 this
theorem s1 : seen (m2.f k1) 1 = ⟨1, false, r1⟩ := by rw [f2]; rfl
theorem s2 : seen (m2.f k1) 2 = ⟨2, true, zRc⟩ := by rw [f2]; rfl
theorem n2 : nwt (m2.f k1) = 2 := by rw [f2]; rfl
end D
theorem run_bdr_1 (w : World) : (bdrh #[(0, .int .u8 1), (2, .int .u8 1)]).run Tryz.prog w = .ok (.agg (rSh.v D.r1)) w := by
 simp [bdrh, rv_eq, D.r1, Instr.build, go_sem]
theorem run_bdk_one (w : World) : (bdk #[(0, .int .u8 1)]).run Tryz.prog w = .ok (.agg (kS.v D.k1)) w := run_bdk_1 w 1 (by decide)
theorem bdx_list (w : World) (r : D.Rc) : ∀ l : List Value, l.length = 25 → (bdx #[(0, .agg l.toArray), (2, .agg (rSh.v r))]).run Tryz.prog w = .ok (.agg (l ++ .bool false :: rcellsh r).toArray) w
 | [a0, a1, a2, a3, a4, a5, a6, a7, a8, a9, a10, a11, a12, a13, a14, a15, a16, a17, a18, a19, a20, a21, a22, a23, a24], _ => by
  rw [show rSh.v r = (rcellsh r).toArray from rfl]
  simp [bdx, rcellsh, Instr.build, go_sem]
theorem run_bdx_r (w : World) (k : D.Ky) (r : D.Rc) : (bdx #[(0, .agg (kS.v k)), (2, .agg (rSh.v r))]).run Tryz.prog w = .ok (.agg (xS.v ⟨k, false, r⟩)) w := bdx_list w r (bys k.l) (by rw [bys_len, k.len])
theorem bdxd_list (w : World) (b : Bool) : ∀ l : List Value, l.length = 25 → (bdx #[(0, .agg l.toArray), (1, .bool b)]).run Tryz.prog w = .ok (.agg (l ++ .bool b :: rcellsh D.zRc).toArray) w
 | [a0, a1, a2, a3, a4, a5, a6, a7, a8, a9, a10, a11, a12, a13, a14, a15, a16, a17, a18, a19, a20, a21, a22, a23, a24], _ => by
  simp [bdx, rcellsh, D.zRc, Instr.build, go_sem]
theorem run_bdx_d (w : World) (k : D.Ky) (b : Bool) : (bdx #[(0, .agg (kS.v k)), (1, .bool b)]).run Tryz.prog w = .ok (.agg (xS.v ⟨k, b, D.zRc⟩)) w := bdxd_list w b (bys k.l) (by rw [bys_len, k.len])
theorem xr_one (w : World) (x : D.Wt) (n : Nat) (hn : n = w.heap.size) : XR (w.alloc (.cells (xS.v x) 77)) (some ⟨n, 0, none⟩) 1 [x] := by
 subst hn
 exact ⟨Shp.row_new (S := xS) w 77 w.heap.size [x] rfl (xS.v x) (by simp [Shp.rcs, Shp.v]), fun ad ha _ ⟨cs, T, f, h2, h3⟩ => by
  injection ha with ha
  subst ha
  exact ty_ne (Blk.new w 77 (xS.v x)) h2 (fun e => by subst e; revert h3; decide) rfl⟩
theorem Frm.bel {base : Nat} {w0 w w' : World} (f : Frm base w w') (h : Below base w0 w) (hb : base ≤ w.heap.size) : Below base w0 w' := h.trans (f.below hb)
end Go.Proofs.YtjlaffgbmcpldaaGreatDoor
namespace Go.Proofs.YtjlaffgbmcpldaaGreatDoor
open Go.RowKit
attribute [local go_sem ↓] Go.wp_at_zero Go.wp_at_succ ld_k lv_k st_k eq_k ne_k bd_k ld_b lv_b st_b eq_b ne_b bd_25 ld_r lv_r st_rk eq_rk ne_rk bd_r ld_p lv_p st_px bd_p Nm.ld_a Nm.ld_n Nm.st_a Nm.st_n Nm.eq_a Nm.eq_n Nm.ne_a Nm.ne_n Nm.lv_a Nm.lv_n ld_a ld_n st_a st_n eq_a eq_n ne_a ne_n lv_a lv_n ld_l lv_l st_l bd_l bd_n bs_k ld_v lv_v st_v ne_v bd_v bs_v ld_rh ld_d lv_rh lv_d st_r st_d ne_rh eq_rh ne_d bd_rh bd_d ld_x lv_x st_x bd_x bs_x ld_e lv_e st_e bd_e bs_e ne_e
attribute [local go_sem] run_ldk run_lvk run_stk run_eqk run_nek run_bdk_z run_ldb run_lvb run_stb run_eqb run_neb run_ldr run_lvr run_strk run_eqrk run_nerk run_bdr_z run_ldp run_lvp run_stpx Nm.run_ld_a Nm.run_ld_n Nm.run_st_n Nm.run_eq_a Nm.run_eq_n Nm.run_ne_a Nm.run_ne_n Nm.run_lv_a Nm.run_lv_n Nm.rd_new Nm.rd_old Nm.rd_drew Nm.rd_drewN run_ld_a run_ld_n run_sw_a run_sw_n run_eq_a run_eq_n run_ne_a run_ne_n run_lv_a run_lv_n st_z ne_z eq_z rd_new rd_old rd_drew rd_drewN Shp.rd_new Shp.rd_old Shp.rd_drew Shp.rd_drewN Shp.rd_set Shp.tn_new Shp.tn_old Shp.tn_drew Shp.tn_drewN tn_new tn_old tn_drew tn_drewN rd_set setRow_alloc run_stn3 run_stt15 run_lvl run_ldl run_stl run_bdl run_bdn run_bdn0 run_bsk Shp.rd_extk cell_ext run_ldv run_lvv run_stv run_nev run_bdv_z run_bdv_d run_bdv_r run_bsv1 run_bsv0 run_ldrh run_ldd run_lvrh run_lvd run_str run_std run_nerh run_eqrh run_ned run_bdr0 run_bdd0 run_bdr1 run_bdd1 run_bdd9 run_ldx run_lvx run_stx run_lde run_lve run_bde run_bse1 run_bdv_3 Shp.rd_extk cell_ext
def D.Sm.nxt (M : D.Sm) (k : D.Ky) : Option D.Ky := M.ks.find? fun y => Cr.lt k y
theorem SC.nxt {base s g : Nat} {w : World} {o : Option Tk} {q : D.Ky → Qd} {lv : Int} {M : D.Sm} (h : SC base w s g o q lv M) (k : D.Ky) : Cr.nxt k (Cr.Tr.lso o) = M.nxt k := by
 rw [h.ls]
 unfold Cr.nxt D.Sm.nxt
 rw [List.find?_map]
 simp only [Option.map_map]
 have e : ((fun e : D.Ky × Vl => Cr.lt k e.1) ∘ fun y => (y, some (⟨(q y).b, 0, none⟩ : Addr))) = fun y => Cr.lt k y := rfl
 rw [e]
 cases M.ks.find? fun y => Cr.lt k y <;> rfl
theorem tnext_any {w : World} {g : Nat} {o : Option Tk} (hT : TR w g o) (k : D.Ky) : Calls Tryz.prog 104 #[.pointer (some ⟨g, 0, none⟩), .agg (kS.v k)] w fun e w' => e = .returned (.tuple #[.agg (kS.v ((Cr.nxt k (Cr.Tr.lso o)).getD D.zK)), .bool (Cr.nxt k (Cr.Tr.lso o)).isSome]) ∧ Below w.heap.size w w' := by
 cases o with
 | none => exact next_none g k w hT
 | some t => exact next_some g t k w hT
set_option maxHeartbeats 1000000 in
theorem snext_any {base : Nat} {w : World} {p : Option Addr} {M : D.Sm} (hS : SO base w p M) (k : D.Ky) : Calls Tryz.prog 71 #[.pointer p, .agg (kS.v k)] w fun e w' => e = .returned (.tuple #[.agg (kS.v ((M.nxt k).getD D.zK)), .bool (M.nxt k).isSome]) ∧ Below w.heap.size w w' := by
 obtain ⟨w1, hw1⟩ : ∃ w1, (w.alloc (.cells (kS.v k) 39)).alloc (.cells z25 39) = w1 := ⟨_, rfl⟩
 have f1 : kS.rd w1 ⟨w.heap.size, 0, none⟩ = some k := by rw [← hw1]; exact Shp.rd_on (Shp.rd_new (S := kS) w _ _ _ rfl) (below_alloc_ _ _)
 have b1 : Below w.heap.size w w1 := by rw [← hw1]; exact (below_alloc_ _ _).alloc (by simp) _
 have t1 : Shp.tn 25 w1 (w.heap.size + 1) = true := by rw [← hw1]; exact Shp.tn_new _ _ _ _ _ (by simp) rfl
 unfold z25 at hw1
 have HO := Lib.hid hS
 go_enter Tryz.func71, Tryz.ntmps71
 go_wp2_with fail
 try rw [hw1]
 clear hw1
 have sk : Hid (∀ V, Below w1.heap.size w1 V → Below w.heap.size w V ∧ kS.rd V ⟨w.heap.size, 0, none⟩ = some k ∧ Shp.tn 25 V (w.heap.size + 1) = true) := Lib.hid fun V hV => ⟨below_up b1 b1.size hV, Shp.rd_on f1 hV, Shp.tn_on t1 hV⟩
 have bd : Below w1.heap.size w1 w1.drew := (Below.refl _ _).drew
 have sd := sk.out _ bd
 refine wp_region_noPanic ?_
 refine wp_region_held_drew (S := (fun V => Below w.heap.size w V ∧ kS.rd V ⟨w.heap.size, 0, none⟩ = some k ∧ Shp.tn 25 V (w.heap.size + 1) = true)) (by kernel_rfl) sd (fun _ => ?_)
 refine takeT 0 (some 6) ?v2 ?hy2 sd ?rest2
 case hy2 => (intro o ho W hW; simp only [gT, gS, gZ, sI] at ho; subst ho; (try dsimp only at hW); go_simp; try rfl)
 try simp only [Act.put, iT, iZ, iS]
 refine takeT 5 (some 11) ?v3 ?hy3 sd ?rest3
 case hy3 => (intro o ho W hW; simp only [gT, gS, gZ, sI] at ho; subst ho; (try dsimp only at hW); obtain ⟨h1_, h2_, h3_⟩ := hW; go_simp; try rfl)
 try simp only [Act.put, iT, iZ, iS]
 refine nextS 1 (by kernel_rfl) (by rfl) (fun o ho K hK => ?_)
 simp only [gT, gS, gZ, sI] at ho; subst ho
 go_simp
 go_at_call 56
 refine (HO.out _ (below_up b1 b1.size bd)).mono ?_
 rintro e w2 ⟨s, rfl, ⟨g, o, q, h2⟩, b2⟩
 have b3 := below_up bd bd.size b2
 have s3 := sk.out _ b3
 refine hK.out _ _ s3 (fun _ => ?_)
 clear hK K
 try simp only [Act.put, iT, iZ, iS]
 have c0 := h2.blk.c 0
 simp only [List.getElem?_toArray, List.getElem?_cons_zero] at c0
 refine takeT 2 (some 8) ?v6 ?hy6 s3 ?rest6
 case hy6 => (intro o ho W hW; simp only [gT, gS, gZ, sI] at ho; subst ho; (try dsimp only at hW); go_simp; try rfl)
 try simp only [Act.put, iT, iZ, iS]
 refine takeT 3 (some 9) ?v7 ?hy7 s3 ?rest7
 case hy7 => (intro o ho W hW; simp only [gT, gS, gZ, sI] at ho; subst ho; (try dsimp only at hW); go_simp; try rfl)
 try simp only [Act.put, iT, iZ, iS]
 have hC := Lib.hid h2
 have hk := Lib.hid (h2.nxt k)
 clear bd h2
 refine nextS 4 (by kernel_rfl) (by rfl) (fun o ho K hK => ?_)
 simp only [gT, gS, gZ, sI] at ho; subst ho
 go_simp
 refine hK.out _ _ s3 (fun _ => ?_)
 clear hK K
 try simp only [Act.put, iT, iZ, iS]
 refine nextS 6 (by kernel_rfl) (by rfl) (fun o ho K hK => ?_)
 simp only [gT, gS, gZ, sI] at ho; subst ho
 go_simp
 go_at_call 104
 refine (tnext_any hC.out.tc.tr k).mono ?_
 rw [hk.out]
 rintro e w4 ⟨rfl, b4⟩
 have b5 := below_up b3 b3.size b4
 have s5 := sk.out _ b5
 refine hK.out _ _ s5 (fun _ => ?_)
 clear hK K
 try simp only [Act.put, iT, iZ, iS]
 refine takeT 7 (some 13) ?v12 ?hy12 s5 ?rest12
 case hy12 => (intro o ho W hW; simp only [gT, gS, gZ, sI] at ho; subst ho; (try dsimp only at hW); go_simp; try rfl)
 try simp only [Act.put, iT, iZ, iS]
 refine takeT 8 (some 14) ?v13 ?hy13 s5 ?rest13
 case hy13 => (intro o ho W hW; simp only [gT, gS, gZ, sI] at ho; subst ho; (try dsimp only at hW); go_simp; try rfl)
 try simp only [Act.put, iT, iZ, iS]
 have t5 := s5.2.2
 refine nextS 9 (by kernel_rfl) (by rfl) (fun o ho K hK => ?_)
 simp only [gT, gS, gZ, sI] at ho; subst ho
 go_simp
 have s6 : Below w.heap.size w (w4.setRow (w.heap.size + 1) (kS.v ((M.nxt k).getD D.zK))) ∧ kS.rd (w4.setRow (w.heap.size + 1) (kS.v ((M.nxt k).getD D.zK))) ⟨w.heap.size, 0, none⟩ = some k ∧ Shp.tn 25 (w4.setRow (w.heap.size + 1) (kS.v ((M.nxt k).getD D.zK))) (w.heap.size + 1) = true := ⟨bel_setRow s5.1 (Nat.le_succ _) _, (Shp.rd_far _ _ _ _ (by simp only; omega)).trans s5.2.1, Shp.tn_setRow _ (by rw [kS.v_size]; rfl) t5⟩
 refine hK.out _ _ s6 (fun _ => ?_)
 clear hK K
 try simp only [Act.put, iT, iZ, iS]
 refine takeT 10 (some 5) ?v16 ?hy16 s6 ?rest16
 case hy16 => (intro o ho W hW; simp only [gT, gS, gZ, sI] at ho; subst ho; (try dsimp only at hW); go_simp; try rfl)
 try simp only [Act.put, iT, iZ, iS]
 refine wpAnyH_done (by kernel_rfl) ?_ _
 refine NoPanic.normal ?_
 go_wp2
 have hset := Shp.rd_set (S := kS) w4 (w.heap.size + 1) ((M.nxt k).getD D.zK) t5
 refine bodyPost_ret (v := .tuple #[.agg (kS.v ((M.nxt k).getD D.zK)), .bool (M.nxt k).isSome]) (by rw [results_ct rfl]; simp [asAddr, Result.andThen, lvk_of hset]) rfl ⟨rfl, s6.1⟩
theorem ctrim_nil (w : World) (A : Option Addr) (n c : Nat) : Calls Tryz.prog 157 #[.pointer none, .slice A n c] w fun e w' => e = .returned (.int .i64 0) ∧ Below w.heap.size w w' := by
 go_enter Tryz.func157, Tryz.ntmps157
 go_wp2
 go_ret
 exact ⟨rfl, by first | exact below_alloc_ _ _ | exact Below.refl _ _⟩
end Go.Proofs.YtjlaffgbmcpldaaGreatDoor
