/-
  Scan: what is seen of a prefix's keys, up to so many.
  The law's Cut: writes, at most twenty, whose texts have at most eighty bytes.
  The chapter's example.
-/
import Derived.Test.YteiikacgcfidmaaGreatDoorG33
import Derived.Test.YteiikacgcfidmaaGreatDoorG35
set_option linter.unusedVariables false
set_option linter.unusedSimpArgs false
set_option maxRecDepth 100000
namespace Go.Proofs.YteiikacgcfidmaaGreatDoor
open Go.RowKit
attribute [local go_sem ↓] Go.wp_at_zero Go.wp_at_succ ld_k lv_k st_k eq_k ne_k bd_k ld_b lv_b st_b eq_b ne_b bd_25 ld_r lv_r st_rk eq_rk ne_rk bd_r ld_p lv_p st_px bd_p Nm.ld_a Nm.ld_n Nm.st_a Nm.st_n Nm.eq_a Nm.eq_n Nm.ne_a Nm.ne_n Nm.lv_a Nm.lv_n ld_a ld_n st_a st_n eq_a eq_n ne_a ne_n lv_a lv_n ld_l lv_l st_l bd_l bd_n bs_k ld_v lv_v st_v ne_v bd_v bs_v ld_rh ld_d lv_rh lv_d st_r st_d ne_rh eq_rh ne_d bd_rh bd_d ld_x lv_x st_x bd_x bs_x ld_e lv_e st_e bd_e bs_e ne_e
attribute [local go_sem] run_ldk run_lvk run_stk run_eqk run_nek run_bdk_z run_ldb run_lvb run_stb run_eqb run_neb run_ldr run_lvr run_strk run_eqrk run_nerk run_bdr_z run_ldp run_lvp run_stpx Nm.run_ld_a Nm.run_ld_n Nm.run_st_n Nm.run_eq_a Nm.run_eq_n Nm.run_ne_a Nm.run_ne_n Nm.run_lv_a Nm.run_lv_n Nm.rd_new Nm.rd_old Nm.rd_drew Nm.rd_drewN run_ld_a run_ld_n run_sw_a run_sw_n run_eq_a run_eq_n run_ne_a run_ne_n run_lv_a run_lv_n st_z ne_z eq_z rd_new rd_old rd_drew rd_drewN Shp.rd_new Shp.rd_old Shp.rd_drew Shp.rd_drewN Shp.rd_set Shp.tn_new Shp.tn_old Shp.tn_drew Shp.tn_drewN tn_new tn_old tn_drew tn_drewN rd_set setRow_alloc run_stn3 run_stt15 run_lvl run_ldl run_stl run_bdl run_bdn run_bdn0 run_bsk Shp.rd_extk cell_ext run_ldv run_lvv run_stv run_nev run_bdv_z run_bdv_d run_bdv_r run_bsv1 run_bsv0 run_ldrh run_ldd run_lvrh run_lvd run_str run_std run_nerh run_eqrh run_ned run_bdr0 run_bdd0 run_bdr1 run_bdd1 run_bdd9 run_ldx run_lvx run_stx run_lde run_lve run_bde run_bse1 run_bdv_3 Shp.rd_extk cell_ext
/-- What the closure captures, and the entries so far. -/
structure Sn (w W : World) (b1 b2 b3 b4 : Nat) (p : Option Addr) (t : Nat) (most : Int) (A : Option Addr) (c : Nat) (l : List Ent) : Prop where
  bel : Below w.heap.size w W
  c1 : Blk W b1 42 #[.pointer p]
  c2 : Blk W b2 44 #[.int .u64 (t : Nat)]
  c3 : Blk W b3 56 #[.slice A l.length c]
  c4 : Blk W b4 3 #[.int .i64 most]
  ow : Ow 60 34 w.heap.size W A l.length c (eS.rcs l)
  ge : w.heap.size ≤ b1 ∧ w.heap.size ≤ b2 ∧ w.heap.size ≤ b3 ∧ w.heap.size ≤ b4
section
variable {w W W' : World} {b1 b2 b3 b4 : Nat} {p : Option Addr} {t : Nat} {most : Int} {A : Option Addr} {c : Nat} {l : List Ent}
theorem Sn.on (h : Sn w W b1 b2 b3 b4 p t most A c l) (hb : Below W.heap.size W W') : Sn w W' b1 b2 b3 b4 p t most A c l :=
  ⟨below_up h.bel h.bel.size hb, h.c1.on hb, h.c2.on hb, h.c3.on hb, h.c4.on hb, h.ow.on hb, h.ge⟩
/-- One more entry. -/
theorem Sn.app {A' : Option Addr} {c' : Nat} {x : Ent} (h : Sn w W b1 b2 b3 b4 p t most A c l) (ho : Ow 60 34 w.heap.size W' A' (l.length + 1) c' (eS.rcs l ++ eS.cs x)) (hg : W.grownBy W' (Value.slice A l.length c).ownBlock) :
    Sn w (W'.setCell ⟨b3, 0, none⟩ (.slice A' (l.length + 1) c')) b1 b2 b3 b4 p t most A' c' (l ++ [x]) := by
  have k : ∀ {g T cs}, Blk W g T cs → T ≠ 60 → Blk W' g T cs := fun {g T cs} hB hT => ⟨(hg.block g hB.lt fun e => by
    obtain ⟨cs2, h2⟩ := ow_block h.ow (own_at e.symm)
    have := h2.symm.trans hB.out
    injection this with this
    injection this with _ h3
    exact hT h3.symm).trans hB.out⟩
  have hB3 := k h.c3 (by decide)
  have hl : (l ++ [x]).length = l.length + 1 := by simp
  have hne : ∀ {g T cs}, Blk W' g T cs → T ≠ 56 → g ≠ b3 := fun hB hT e => by
    subst e
    have := hB.out.symm.trans hB3.out
    injection this with this
    injection this with _ h3
    exact hT h3
  have s : ∀ {g T cs}, Blk W' g T cs → T ≠ 56 → Blk (W'.setCell ⟨b3, 0, none⟩ (.slice A' (l.length + 1) c')) g T cs := fun hB hT => ⟨(Below.heap_setCell _ _ _ _ (hne hB hT)).trans hB.out⟩
  refine ⟨?_, s (k h.c1 (by decide)) (by decide), s (k h.c2 (by decide)) (by decide), by rw [hl]; exact hB3.set_ _, s (k h.c4 (by decide)) (by decide), ?_, h.ge⟩
  · have hW : Below w.heap.size w W' := h.bel.grown hg h.bel.size fun r hr => (h.ow.lt r hr).1
    exact hW.setCell (show w.heap.size ≤ b3 from h.ge.2.2.1) _
  · rw [hl, rcs_snoc]
    refine ho.kept (by simp [World.setCell]) fun q hq => Below.heap_setCell _ _ _ _ fun e => ?_
    obtain ⟨cs2, h2⟩ := ow_block ho (own_at hq)
    have e : q = b3 := e
    subst e
    have := h2.symm.trans hB3.out
    injection this with this
    injection this with _ h3
    exact absurd h3 (by decide)
end
end Go.Proofs.YteiikacgcfidmaaGreatDoor
set_option linter.unusedVariables false
set_option linter.unusedSimpArgs false
set_option maxRecDepth 100000
namespace Go.Proofs.YteiikacgcfidmaaGreatDoor
open Go.RowKit
theorem xv_34 (x : D.Wt) : (xS.v x)[34]? = some (.string x.r.t) := by
  have hl := x.k.len
  show (xcells x).toArray[34]? = _
  rw [List.getElem?_toArray, xcells, List.getElem?_append_right (by rw [bys_len, hl]; omega), bys_len, hl]
  rfl
theorem xv_set34 (x : D.Wt) (t : ByteArray) : (xS.v x).setIfInBounds 34 (.string t) = xS.v ⟨x.k, x.d, { x.r with t := t }⟩ := by
  have hl := x.k.len
  show (xcells x).toArray.setIfInBounds 34 (.string t) = (xcells _).toArray
  rw [List.setIfInBounds_toArray]
  congr 1
  simp only [xcells]
  rw [List.set_append_right _ _ (by rw [bys_len, hl]; omega), bys_len, hl]
  simp [rcellsh]
theorem bsx_list (w : World) (d : Bool) (r : D.Rc) : ∀ l : List Value, l.length = 25 → (bsx 1 #[(0, .agg (l ++ .bool d :: rcellsh r).toArray)]).run Tryz.prog w = .ok (.slice (some ⟨w.heap.size, 0, none⟩) 1 1) (w.alloc (.cells (l ++ .bool d :: rcellsh r).toArray 65))
  | [a0, a1, a2, a3, a4, a5, a6, a7, a8, a9, a10, a11, a12, a13, a14, a15, a16, a17, a18, a19, a20, a21, a22, a23, a24], _ => by
    simp [bsx, rcellsh, Instr.buildSlice, go_sem]
theorem run_bsx1 (w : World) (x : D.Wt) : (bsx 1 #[(0, .agg (xS.v x))]).run Tryz.prog w = .ok (.slice (some ⟨w.heap.size, 0, none⟩) 1 1) (w.alloc (.cells (xS.v x) 65)) := bsx_list w x.d x.r (bys x.k.l) (by rw [bys_len, x.k.len])
attribute [local go_sem ↓] Go.wp_at_zero Go.wp_at_succ ld_k lv_k st_k eq_k ne_k bd_k ld_b lv_b st_b eq_b ne_b bd_25 ld_r lv_r st_rk eq_rk ne_rk bd_r ld_p lv_p st_px bd_p Nm.ld_a Nm.ld_n Nm.st_a Nm.st_n Nm.eq_a Nm.eq_n Nm.ne_a Nm.ne_n Nm.lv_a Nm.lv_n ld_a ld_n st_a st_n eq_a eq_n ne_a ne_n lv_a lv_n ld_l lv_l st_l bd_l bd_n bs_k ld_v lv_v st_v ne_v bd_v bs_v ld_rh ld_d lv_rh lv_d st_r st_d ne_rh eq_rh ne_d bd_rh bd_d ld_x lv_x st_x bd_x bs_x ld_e lv_e st_e bd_e bs_e ne_e
attribute [local go_sem] run_ldk run_lvk run_stk run_eqk run_nek run_bdk_z run_ldb run_lvb run_stb run_eqb run_neb run_ldr run_lvr run_strk run_eqrk run_nerk run_bdr_z run_ldp run_lvp run_stpx Nm.run_ld_a Nm.run_ld_n Nm.run_st_n Nm.run_eq_a Nm.run_eq_n Nm.run_ne_a Nm.run_ne_n Nm.run_lv_a Nm.run_lv_n Nm.rd_new Nm.rd_old Nm.rd_drew Nm.rd_drewN run_ld_a run_ld_n run_sw_a run_sw_n run_eq_a run_eq_n run_ne_a run_ne_n run_lv_a run_lv_n st_z ne_z eq_z rd_new rd_old rd_drew rd_drewN Shp.rd_new Shp.rd_old Shp.rd_drew Shp.rd_drewN Shp.rd_set Shp.tn_new Shp.tn_old Shp.tn_drew Shp.tn_drewN tn_new tn_old tn_drew tn_drewN rd_set setRow_alloc run_stn3 run_stt15 run_lvl run_ldl run_stl run_bdl run_bdn run_bdn0 run_bsk Shp.rd_extk cell_ext run_ldv run_lvv run_stv run_nev run_bdv_z run_bdv_d run_bdv_r run_bsv1 run_bsv0 run_ldrh run_ldd run_lvrh run_lvd run_str run_std run_nerh run_eqrh run_ned run_bdr0 run_bdd0 run_bdr1 run_bdd1 run_bdd9 run_ldx run_lvx run_stx run_lde run_lve run_bde run_bse1 run_bdv_3 Shp.rd_extk cell_ext
attribute [local go_sem] xv_34 xv_set34 run_bsx1
end Go.Proofs.YteiikacgcfidmaaGreatDoor
set_option linter.unusedVariables false
set_option linter.unusedSimpArgs false
set_option maxRecDepth 100000
namespace Go.Proofs.YteiikacgcfidmaaGreatDoor
open Go.RowKit
namespace D
def k1 : Ky := mkK 1 0 0 Nm.D.zero zero
def r1 : Rc := ⟨1, 0, 1, 0, 0, false, 0, 0, ⟨#[]⟩⟩
def x1 : Wt := ⟨k1, false, r1⟩
def x2 : Wt := ⟨k1, true, zRc⟩
def m1 : Sm := Sm.zero.app [x1]
def m2 : Sm := m1.app [x2]
theorem kr1 : kright k1 = true := by decide +kernel
theorem wg1 : wwg x1 = 0 := by
  unfold wwg
  rw [show kright x1.k = true from kr1]
  decide +kernel
theorem wg2 : wwg x2 = 0 := by
  unfold wwg
  rw [show kright x2.k = true from kr1]
  decide +kernel
theorem sk1 : sck [x1] = 0 := by simp [sck, wck, wg1]
theorem sk2 : sck [x2] = 0 := by simp [sck, wck, wg2]
theorem xw1 : ∀ x ∈ [x1], x.r.wf := by
  intro x hx
  simp at hx
  subst hx
  exact ⟨by decide, by decide, by decide, by decide, by decide, by decide, by decide⟩
theorem xw2 : ∀ x ∈ [x2], x.r.wf := by
  intro x hx
  simp at hx
  subst hx
  exact ⟨by decide, by decide, by decide, by decide, by decide, by decide, by decide⟩
theorem g1 : grw Sm.zero [x1] = 1 := by
  unfold grw
  simp [dlt, Sm.live, Sm.zero, lvn, x1]
theorem f1 : m1.f k1 = [vof x1 1] := by
  have := Sm.app_in (M := Sm.zero) sk1 (x := x1) (by simp)
  exact this
theorem l1 : (m1.live : Int) = 1 := by
  have := Sm.app_live Sm.zero_wf sk1 xw1 (by decide)
  rw [g1] at this
  exact this
theorem m1_wf : m1.wf := Sm.app_wf Sm.zero_wf sk1 xw1 (by decide)
theorem g2 : grw m1 [x2] = 0 := by
  rw [grw_eq, l1]
  have : dlt m1 x2 = -1 := by
    unfold dlt
    rw [show m1.f x2.k = [vof x1 1] from f1]
    rfl
  simp [grs, this]
theorem e1 : Sm.zero.err [x1] = 0 := by unfold Sm.err; rw [sk1, g1]; rfl
theorem e2 : m1.err [x2] = 0 := by unfold Sm.err; rw [sk2, g2]; rfl
theorem p1 : Sm.zero.pub [x1] = m1 := by unfold Sm.pub; rw [if_pos e1]; rfl
theorem p2 : m1.pub [x2] = m2 := by unfold Sm.pub; rw [if_pos e2]; rfl
theorem t1 : Sm.zero.time [x1] = 1 := by unfold Sm.time; rw [if_pos e1]; rfl
theorem t2 : m1.time [x2] = 2 := by unfold Sm.time; rw [if_pos e2]; rfl
theorem f2 : m2.f k1 = [vof x1 1, vof x2 2] := by
  have := Sm.app_in (M := m1) sk2 (x := x2) (by simp)
  rw [show m1.f x2.k = [vof x1 1] from f1] at this
  exact this
theorem l2 : m2.live = 0 := by
  have := Sm.app_live m1_wf sk2 xw2 (by decide)
  rw [g2] at this
  exact Int.ofNat_inj.1 this
theorem s1 : seen (m2.f k1) 1 = ⟨1, false, r1⟩ := by rw [f2]; rfl
theorem s2 : seen (m2.f k1) 2 = ⟨2, true, zRc⟩ := by rw [f2]; rfl
theorem n2 : nwt (m2.f k1) = 2 := by rw [f2]; rfl
theorem ks1 : m1.ks.length ≤ 1 := by decide
end D
theorem run_bdr_1 (w : World) : (bdrh #[(0, .int .u8 1), (2, .int .u8 1)]).run Tryz.prog w = .ok (.agg (rSh.v D.r1)) w := by
  simp [bdrh, rv_eq, D.r1, Instr.build, go_sem]
theorem run_bdk_one (w : World) : (bdk #[(0, .int .u8 1)]).run Tryz.prog w = .ok (.agg (kS.v D.k1)) w := run_bdk_1 w 1 (by decide)
theorem bdx_list (w : World) (r : D.Rc) : ∀ l : List Value, l.length = 25 → (bdx #[(0, .agg l.toArray), (2, .agg (rSh.v r))]).run Tryz.prog w = .ok (.agg (l ++ .bool false :: rcellsh r).toArray) w
  | [a0, a1, a2, a3, a4, a5, a6, a7, a8, a9, a10, a11, a12, a13, a14, a15, a16, a17, a18, a19, a20, a21, a22, a23, a24], _ => by
    rw [show rSh.v r = (rcellsh r).toArray from rfl]
    simp [bdx, rcellsh, Instr.build, go_sem]
theorem run_bdx_r (w : World) (k : D.Ky) (r : D.Rc) : (bdx #[(0, .agg (kS.v k)), (2, .agg (rSh.v r))]).run Tryz.prog w = .ok (.agg (xS.v ⟨k, false, r⟩)) w := bdx_list w r (bys k.l) (by rw [bys_len, k.len])
theorem bdxd_list (w : World) (b : Bool) : ∀ l : List Value, l.length = 25 → (bdx #[(0, .agg l.toArray), (1, .bool b)]).run Tryz.prog w = .ok (.agg (l ++ .bool b :: rcellsh D.zRc).toArray) w
  | [a0, a1, a2, a3, a4, a5, a6, a7, a8, a9, a10, a11, a12, a13, a14, a15, a16, a17, a18, a19, a20, a21, a22, a23, a24], _ => by
    simp [bdx, rcellsh, D.zRc, Instr.build, go_sem]
theorem run_bdx_d (w : World) (k : D.Ky) (b : Bool) : (bdx #[(0, .agg (kS.v k)), (1, .bool b)]).run Tryz.prog w = .ok (.agg (xS.v ⟨k, b, D.zRc⟩)) w := bdxd_list w b (bys k.l) (by rw [bys_len, k.len])
theorem xr_one (w : World) (x : D.Wt) (n : Nat) (hn : n = w.heap.size) : XR (w.alloc (.cells (xS.v x) 65)) (some ⟨n, 0, none⟩) 1 [x] := by
  subst hn
  exact ⟨Shp.row_new (S := xS) w 65 w.heap.size [x] rfl (xS.v x) (by simp [Shp.rcs, Shp.v]), fun ad ha _ ⟨cs, T, f, h2, h3⟩ => by
    injection ha with ha
    subst ha
    exact ty_ne (Blk.new w 65 (xS.v x)) h2 (fun e => by subst e; revert h3; decide) rfl⟩
theorem Frm.bel {base : Nat} {w0 w w' : World} (f : Frm base w w') (h : Below base w0 w) (hb : base ≤ w.heap.size) : Below base w0 w' := h.trans (f.below hb)
/-- The store of the example, behind its two calls. -/
theorem kn_read1 {w : World} {s base : Nat} (h : SM base w s D.m2) : Calls Tryz.prog 17 #[.pointer (some ⟨s, 0, none⟩), .agg (kS.v D.k1), .int .u64 1] w fun e w' => e = .returned (.tuple #[.agg (rSh.v D.r1), .bool true]) ∧ Below w.heap.size w w' := by
  have := sread_any (SO.of h) (by decide) D.k1 1
  rw [D.s1] at this
  exact this
theorem kn_read2 {w : World} {s base : Nat} (h : SM base w s D.m2) : Calls Tryz.prog 17 #[.pointer (some ⟨s, 0, none⟩), .agg (kS.v D.k1), .int .u64 2] w fun e w' => e = .returned (.tuple #[.agg (rSh.v D.zRc), .bool false]) ∧ Below w.heap.size w w' := by
  have := sread_any (SO.of h) (by decide) D.k1 2
  rw [D.s2] at this
  exact this
theorem kn_live {w : World} {s base : Nat} (h : SM base w s D.m2) : Calls Tryz.prog 19 #[.pointer (some ⟨s, 0, none⟩)] w fun e w' => e = .returned (.int .i64 0) ∧ Below w.heap.size w w' := by
  have := slive_any (SO.of h)
  rw [D.l2] at this
  exact this
theorem kn_newest {w : World} {s base : Nat} (h : SM base w s D.m2) : Calls Tryz.prog 21 #[.pointer (some ⟨s, 0, none⟩), .agg (kS.v D.k1)] w fun e w' => e = .returned (.int .u64 2) ∧ Below w.heap.size w w' := by
  have := snewest_any (SO.of h) (by decide) D.k1
  rw [D.n2] at this
  exact this
theorem kn_pub1 (hR : KRt) {w W : World} {s base n : Nat} (h : SM base w s .zero) (hb : Below w.heap.size w W) (hn : n = W.heap.size) : Calls Tryz.prog 15 #[.pointer (some ⟨s, 0, none⟩), .slice (some ⟨n, 0, none⟩) 1 1] (W.alloc (.cells (xS.v D.x1) 65)) fun e w' => e = .returned (.tuple #[.int .u64 1, .int .i64 0]) ∧ SM base w' s D.m1 ∧ Frm base w w' := by
  refine (spub_any (c := 1) hR ((h.on hb).on (below_alloc_ W (.cells (xS.v D.x1) 65))) (by decide) (by decide) (xr_one W D.x1 n hn) D.xw1 (by decide)).mono ?_
  rw [D.t1, D.e1, D.p1]
  rintro e w' ⟨h1, h2, h3⟩
  exact ⟨h1, h2, Frm.off (below_up hb hb.size (below_alloc_ _ _)) h3⟩
theorem kn_pub2 (hR : KRt) {w W : World} {s base n : Nat} (h : SM base w s D.m1) (hb : Below w.heap.size w W) (hn : n = W.heap.size) : Calls Tryz.prog 15 #[.pointer (some ⟨s, 0, none⟩), .slice (some ⟨n, 0, none⟩) 1 1] (W.alloc (.cells (xS.v D.x2) 65)) fun e w' => e = .returned (.tuple #[.int .u64 2, .int .i64 0]) ∧ SM base w' s D.m2 ∧ Frm base w w' := by
  refine (spub_any (c := 1) hR ((h.on hb).on (below_alloc_ W (.cells (xS.v D.x2) 65))) (by decide) (Nat.le_trans D.ks1 (by decide)) (xr_one W D.x2 n hn) D.xw2 (by decide)).mono ?_
  rw [D.t2, D.e2, D.p2]
  rintro e w' ⟨h1, h2, h3⟩
  exact ⟨h1, h2, Frm.off (below_up hb hb.size (below_alloc_ _ _)) h3⟩
attribute [local go_sem ↓] Go.wp_at_zero Go.wp_at_succ ld_k lv_k st_k eq_k ne_k bd_k ld_b lv_b st_b eq_b ne_b bd_25 ld_r lv_r st_rk eq_rk ne_rk bd_r ld_p lv_p st_px bd_p Nm.ld_a Nm.ld_n Nm.st_a Nm.st_n Nm.eq_a Nm.eq_n Nm.ne_a Nm.ne_n Nm.lv_a Nm.lv_n ld_a ld_n st_a st_n eq_a eq_n ne_a ne_n lv_a lv_n ld_l lv_l st_l bd_l bd_n bs_k ld_v lv_v st_v ne_v bd_v bs_v ld_rh ld_d lv_rh lv_d st_r st_d ne_rh eq_rh ne_d bd_rh bd_d ld_x lv_x st_x bd_x bs_x ld_e lv_e st_e bd_e bs_e ne_e
attribute [local go_sem] run_ldk run_lvk run_stk run_eqk run_nek run_bdk_z run_ldb run_lvb run_stb run_eqb run_neb run_ldr run_lvr run_strk run_eqrk run_nerk run_bdr_z run_ldp run_lvp run_stpx Nm.run_ld_a Nm.run_ld_n Nm.run_st_n Nm.run_eq_a Nm.run_eq_n Nm.run_ne_a Nm.run_ne_n Nm.run_lv_a Nm.run_lv_n Nm.rd_new Nm.rd_old Nm.rd_drew Nm.rd_drewN run_ld_a run_ld_n run_sw_a run_sw_n run_eq_a run_eq_n run_ne_a run_ne_n run_lv_a run_lv_n st_z ne_z eq_z rd_new rd_old rd_drew rd_drewN Shp.rd_new Shp.rd_old Shp.rd_drew Shp.rd_drewN Shp.rd_set Shp.tn_new Shp.tn_old Shp.tn_drew Shp.tn_drewN tn_new tn_old tn_drew tn_drewN rd_set setRow_alloc run_stn3 run_stt15 run_lvl run_ldl run_stl run_bdl run_bdn run_bdn0 run_bsk Shp.rd_extk cell_ext run_ldv run_lvv run_stv run_nev run_bdv_z run_bdv_d run_bdv_r run_bsv1 run_bsv0 run_ldrh run_ldd run_lvrh run_lvd run_str run_std run_nerh run_eqrh run_ned run_bdr0 run_bdd0 run_bdr1 run_bdd1 run_bdd9 run_ldx run_lvx run_stx run_lde run_lve run_bde run_bse1 run_bdv_3 Shp.rd_extk cell_ext
attribute [local go_sem] run_bsx1 run_bdr_1 run_bdk_one run_bdx_r run_bdx_d
set_option maxHeartbeats 8000000 in
theorem known_any (hR : KRt) (w : World) : Calls Tryz.prog 10 #[] w fun e w' => e = .returned (.bool true) ∧ Below w.heap.size w w' := by
  have CN := Lib.hid (snew_any w.heap.size w (Nat.le_refl _))
  have hX1 := Lib.hid D.xw1
  have hX2 := Lib.hid D.xw2
  have eX1 : (⟨D.k1, false, D.r1⟩ : D.Wt) = D.x1 := rfl
  have eX2 : (⟨D.k1, true, D.zRc⟩ : D.Wt) = D.x2 := rfl
  go_enter Tryz.func10, Tryz.ntmps10
  go_wp2_with (go_at_call 14; (with_reducible refine CN.out.mono ?_); rintro e w1 ⟨rfl, hS1, b1⟩; have HS1 := Lib.hid hS1; have B1 := Lib.hid b1; clear hS1 b1; have k1_ := Shp.rd_new (S := kS) w1 w1.heap.size 39 D.k1 rfl)
  have K2 := Lib.hid (Blk.new w1 39 (kS.v D.k1))
  have HS2 := Lib.hid (HS1.out.on (below_alloc_ w1 (.cells (kS.v D.k1) 39)))
  have B2 := Lib.hid (below_up B1.out B1.out.size (below_alloc_ w1 (.cells (kS.v D.k1) 39)))
  have C1 := kn_pub1 hR HS2.out (Below.refl _ _) (n := w1.heap.size + 1) (by simp)
  obtain ⟨gk, hgk⟩ : ∃ gk, w1.heap.size = gk := ⟨_, rfl⟩
  obtain ⟨w2, hw2⟩ : ∃ w2, w1.alloc (.cells (kS.v D.k1) 39) = w2 := ⟨_, rfl⟩
  rw [hgk] at K2 C1 k1_ ⊢
  rw [hw2] at K2 HS2 B2 C1 k1_ ⊢
  have C1 := Lib.hid C1
  clear hw2 hgk k1_
  refine C1.out.mono ?_
  rintro e w3 ⟨rfl, hS3, f3⟩
  have HS3 := Lib.hid hS3
  have K3 := Lib.hid (Frm.blk f3 K2.out (by decide))
  have B3 := Lib.hid (Frm.bel f3 B2.out B2.out.size)
  have k3_ := Shp.rd_blk K3.out
  have C2 := Lib.hid (kn_pub2 hR HS3.out (Below.refl _ _) (n := w3.heap.size) rfl)
  clear hS3 f3 C1
  go_wp2_with (first
    | (go_at_call 15; (with_reducible refine C2.out.mono ?_); rintro e w4 ⟨rfl, hS4, f4⟩; have HS4 := Lib.hid hS4; have K4 := Lib.hid (Frm.blk f4 K3.out (by decide)); have B4 := Lib.hid (Frm.bel f4 B3.out B3.out.size); have k4_ := Shp.rd_blk K4.out; have C3 := Lib.hid (kn_read1 HS4.out); clear hS4 f4)
    | (go_at_call 17; (with_reducible refine C3.out.mono ?_); rintro e w5 ⟨rfl, b5⟩; have d5 := below_up b5 b5.size (below_alloc_ w5 (.cells (rSh.v D.r1) 53)); have k5_ := Shp.rd_on k4_ d5; have R5 := Blk.new w5 53 (rSh.v D.r1); have HS5 := Lib.hid (HS4.out.on d5); have B5 := Lib.hid (below_up B4.out B4.out.size d5); have C4 := Lib.hid (kn_read2 HS5.out))
    | (go_at_call 17; (with_reducible refine C4.out.mono ?_); rintro e w6 ⟨rfl, b6⟩; have d6 := below_up b6 b6.size (below_alloc_ w6 (.cells (rSh.v D.zRc) 53)); have k6_ := Shp.rd_on k5_ d6; have u6_ := (R5.on d6).c 2; rw [show (rSh.v D.r1)[2]? = some (.int .u8 1) from rfl] at u6_; have HS6 := Lib.hid (HS5.out.on d6); have B6 := Lib.hid (below_up B5.out B5.out.size d6); have C5 := Lib.hid (kn_live HS6.out))
    | (go_at_call 19; (with_reducible refine C5.out.mono ?_); rintro e w7 ⟨rfl, b7⟩; have k7_ := Shp.rd_on k6_ b7; have C6 := Lib.hid (kn_newest (HS6.out.on b7)))
    | (go_at_call 21; (with_reducible refine C6.out.mono ?_); rintro e w8 ⟨rfl, b8⟩))
  go_ret
  exact ⟨rfl, below_up (below_up B6.out B6.out.size b7) (below_up B6.out B6.out.size b7).size b8⟩
end Go.Proofs.YteiikacgcfidmaaGreatDoor
