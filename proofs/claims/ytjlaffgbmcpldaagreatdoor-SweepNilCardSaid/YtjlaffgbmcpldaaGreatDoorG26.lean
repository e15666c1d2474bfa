/-
  
-/
import Derived.Test.YtjlaffgbmcpldaaGreatDoorG25
set_option linter.unusedVariables false
set_option linter.unusedSimpArgs false
set_option maxRecDepth 100000
namespace Go.Proofs.YtjlaffgbmcpldaaGreatDoor
open Go.RowKit
attribute [local go_sem ↓] Go.wp_at_zero Go.wp_at_succ ld_k lv_k st_k eq_k ne_k bd_k ld_b lv_b st_b eq_b ne_b bd_25 ld_r lv_r st_rk eq_rk ne_rk bd_r ld_p lv_p st_px bd_p Nm.ld_a Nm.ld_n Nm.st_a Nm.st_n Nm.eq_a Nm.eq_n Nm.ne_a Nm.ne_n Nm.lv_a Nm.lv_n ld_a ld_n st_a st_n eq_a eq_n ne_a ne_n lv_a lv_n ld_l lv_l st_l bd_l bd_n bs_k ld_v lv_v st_v ne_v bd_v bs_v ld_rh ld_d lv_rh lv_d st_r st_d ne_rh eq_rh ne_d bd_rh bd_d ld_x lv_x st_x bd_x bs_x ld_e lv_e st_e bd_e bs_e ne_e
attribute [local go_sem] run_ldk run_lvk run_stk run_eqk run_nek run_bdk_z run_ldb run_lvb run_stb run_eqb run_neb run_ldr run_lvr run_strk run_eqrk run_nerk run_bdr_z run_ldp run_lvp run_stpx Nm.run_ld_a Nm.run_ld_n Nm.run_st_n Nm.run_eq_a Nm.run_eq_n Nm.run_ne_a Nm.run_ne_n Nm.run_lv_a Nm.run_lv_n Nm.rd_new Nm.rd_old Nm.rd_drew Nm.rd_drewN run_ld_a run_ld_n run_sw_a run_sw_n run_eq_a run_eq_n run_ne_a run_ne_n run_lv_a run_lv_n st_z ne_z eq_z rd_new rd_old rd_drew rd_drewN Shp.rd_new Shp.rd_old Shp.rd_drew Shp.rd_drewN Shp.rd_set Shp.tn_new Shp.tn_old Shp.tn_drew Shp.tn_drewN tn_new tn_old tn_drew tn_drewN rd_set setRow_alloc run_stn3 run_stt15 run_lvl run_ldl run_stl run_bdl run_bdn run_bdn0 run_bsk Shp.rd_extk cell_ext run_ldv run_lvv run_stv run_nev run_bdv_z run_bdv_d run_bdv_r run_bsv1 run_bsv0 run_ldrh run_ldd run_lvrh run_lvd run_str run_std run_nerh run_eqrh run_ned run_bdr0 run_bdd0 run_bdr1 run_bdd1 run_bdd9 run_ldx run_lvx run_stx run_lde run_lve run_bde run_bse1 run_bdv_3 Shp.rd_extk cell_ext
theorem xv_at (x : D.Wt) (t : Nat) : (xS.v x).setIfInBounds 33 (.int .u64 (t : Nat)) = xS.v ⟨x.k, x.d, { x.r with a := t }⟩ := by
 have hl := x.k.len
 show (xcells x).toArray.setIfInBounds 33 (.int .u64 (t : Nat)) = (xcells _).toArray
 rw [List.setIfInBounds_toArray]
 congr 1
 simp only [xcells]
 rw [List.set_append_right _ _ (by rw [bys_len, hl]; omega), bys_len, hl]
 simp [rcellsh]
set_option maxHeartbeats 4000000 in
theorem forked_any (x : D.Wt) (t : Nat) (w : World) : Calls Tryz.prog 95 #[.agg (xS.v x), .int .u64 (t : Nat)] w fun e w' => e = .returned (.agg (rSh.v (D.fkd x t))) ∧ Below w.heap.size w w' := by
 have B0 := Blk.new w 77 (xS.v x)
 have b0 := below_alloc_ w (.cells (xS.v x) 77)
 obtain ⟨w0, hw0⟩ : ∃ w0, w.alloc (.cells (xS.v x) 77) = w0 := ⟨_, rfl⟩
 rw [hw0] at B0 b0
 have f1 : Shp.tn 9 (w0.alloc (.cells #[.int .u8 0, .int .u8 0, .int .u8 0, .int .u8 0, .int .u8 0, .bool false, .int .u32 0, .int .u64 0, .string ⟨#[]⟩] 75)) w0.heap.size = true := Shp.tn_new _ _ _ _ _ rfl rfl
 have b1 := below_alloc_ w0 (.cells #[.int .u8 0, .int .u8 0, .int .u8 0, .int .u8 0, .int .u8 0, .bool false, .int .u32 0, .int .u64 0, .string ⟨#[]⟩] 75)
 obtain ⟨w1, hw1⟩ : ∃ w1, w0.alloc (.cells #[.int .u8 0, .int .u8 0, .int .u8 0, .int .u8 0, .int .u8 0, .bool false, .int .u32 0, .int .u64 0, .string ⟨#[]⟩] 75) = w1 := ⟨_, rfl⟩
 rw [hw1] at f1 b1
 have B1 := B0.on b1
 have hge : w.heap.size ≤ w0.heap.size := b0.size
 have hlt : w.heap.size < w0.heap.size := B0.lt
 have F1 : XF w1 w.heap.size x := .of (Shp.rd_blk B1)
 have c1 := F1.rk
 have c2 := F1.ra
 have c3 := F1.ka
 have c4 := F1.r
 have hz := Lib.hid (below_up b0 b0.size b1)
 have HB := Lib.hid B1
 clear B0 b0 b1 B1 F1
 have fin : Hid (∀ (W : World) (r : D.Rc), Below w.heap.size w W → Shp.tn 9 W w0.heap.size = true → rSh.rd (W.setRow w0.heap.size (rSh.v r)) ⟨w0.heap.size, 0, none⟩ = some r ∧ Below w.heap.size w (W.setRow w0.heap.size (rSh.v r))) := Lib.hid fun W r hW hT => ⟨Shp.rd_set (S := rSh) _ _ _ hT, bel_setRow hW hge _⟩
 by_cases h1 : x.r.k = 4
 ·by_cases h2 : x.r.a = 0
  ·by_cases h3 : x.k.a = 0
   ·have e : D.fkd x t = x.r := by unfold D.fkd; rw [if_neg (by simp [h3])]
    rw [e]
    have i1 : ((x.r.k : Int) == 4) = true := by simp; omega
    have i2 : ((x.r.a : Int) == 0) = true := by simp; omega
    have i3 : ((x.k.a : Int) != 0) = false := by simp; omega
    clear e h1 h2 h3
    go_enter Tryz.func95, Tryz.ntmps95
    go_wp2_with fail
    try rw [hw0]
    try rw [hw1]
    go_wp2_with fail
    obtain ⟨r9, z9⟩ := fin.out w1 x.r hz.out f1
    refine bodyPost_ret (v := .agg (rSh.v x.r)) (by rw [results_cell1 rfl]; simp [asAddr, Result.andThen, lvr_ofh r9]) rfl ⟨rfl, z9⟩
   ·have e : D.fkd x t = { x.r with a := t } := by unfold D.fkd; rw [if_pos ⟨h1, h2, h3⟩]
    rw [e]
    have i1 : ((x.r.k : Int) == 4) = true := by simp; omega
    have i2 : ((x.r.a : Int) == 0) = true := by simp; omega
    have i3 : ((x.k.a : Int) != 0) = true := by simp; omega
    have fr := HB.out.f 33
    have B2 := HB.out.put 33 (.int .u64 (t : Nat))
    rw [xv_at] at B2
    obtain ⟨w2, hw2⟩ : ∃ w2, w1.setCell ⟨w.heap.size, 33, none⟩ (.int .u64 (t : Nat)) = w2 := ⟨_, rfl⟩
    have z2 : Below w.heap.size w w2 := by rw [← hw2]; exact hz.out.setCell (Nat.le_refl _) _
    have t2 : Shp.tn 9 w2 w0.heap.size = true := by rw [← hw2]; exact (Shp.tn_to (Below.heap_setCell _ _ _ _ (by simp only; omega))).trans f1
    rw [hw2] at B2
    have c5 := (XF.of (Shp.rd_blk B2)).r
    clear e h1 h2 h3 B2
    go_enter Tryz.func95, Tryz.ntmps95
    go_wp2_with fail
    try rw [hw0]
    try rw [hw1]
    go_wp2_with fail
    try rw [hw2]
    clear hw2
    go_wp2_with fail
    obtain ⟨r9, z9⟩ := fin.out w2 { x.r with a := t } z2 t2
    refine bodyPost_ret (v := .agg (rSh.v { x.r with a := t })) (by rw [results_cell1 rfl]; simp [asAddr, Result.andThen, lvr_ofh r9]) rfl ⟨rfl, z9⟩
  ·have e : D.fkd x t = x.r := by unfold D.fkd; rw [if_neg (by simp [h2])]
   rw [e]
   have i1 : ((x.r.k : Int) == 4) = true := by simp; omega
   have i2 : ((x.r.a : Int) == 0) = false := by simp; omega
   clear e h1 h2
   go_enter Tryz.func95, Tryz.ntmps95
   go_wp2_with fail
   try rw [hw0]
   try rw [hw1]
   go_wp2_with fail
   obtain ⟨r9, z9⟩ := fin.out w1 x.r hz.out f1
   refine bodyPost_ret (v := .agg (rSh.v x.r)) (by rw [results_cell1 rfl]; simp [asAddr, Result.andThen, lvr_ofh r9]) rfl ⟨rfl, z9⟩
 ·have e : D.fkd x t = x.r := by unfold D.fkd; rw [if_neg (by simp [h1])]
  rw [e]
  have i1 : ((x.r.k : Int) == 4) = false := by simp; omega
  clear e h1
  go_enter Tryz.func95, Tryz.ntmps95
  go_wp2_with fail
  try rw [hw0]
  try rw [hw1]
  go_wp2_with fail
  obtain ⟨r9, z9⟩ := fin.out w1 x.r hz.out f1
  refine bodyPost_ret (v := .agg (rSh.v x.r)) (by rw [results_cell1 rfl]; simp [asAddr, Result.andThen, lvr_ofh r9]) rfl ⟨rfl, z9⟩
end Go.Proofs.YtjlaffgbmcpldaaGreatDoor
namespace Go.Proofs.YtjlaffgbmcpldaaGreatDoor
open Go.RowKit

theorem put_kins (k : D.Ky) (v : Vl) (p : D.Ky → Vl) : ∀ {l : List D.Ky}, D.Kup l → Cr.put k v (l.map fun y => (y, p y)) = (D.kins k l).map fun y => (y, if y = k then v else p y)
 | [], _ => by simp [Cr.put, D.kins]
 | e :: l, h => by
  have hne : ∀ m : List D.Ky, (∀ x ∈ m, x ≠ k) → (m.map fun y => (y, p y)) = m.map fun y => (y, if y = k then v else p y) := fun m hm => List.map_congr_left fun y hy => by rw [if_neg (hm y hy)]
  simp only [List.map_cons, Cr.put, D.kins]
  by_cases h1 : Cr.lt e k = true
  ·rw [if_pos h1, if_pos h1, put_kins k v p (List.pairwise_cons.1 h).2]
   simp only [List.map_cons]
   rw [if_neg (Cr.lt_ne h1)]
  ·rw [if_neg h1, if_neg h1]
   by_cases h2 : e = k
   ·subst h2
    rw [if_pos rfl, if_pos rfl]
    simp only [List.map_cons]
    rw [if_pos trivial, hne l fun x hx => h.ne x hx]
   ·rw [if_neg h2, if_neg h2]
    simp only [List.map_cons]
    rw [if_pos trivial, if_neg h2]
    have h3 := Cr.lt_tot h2 (by simpa using h1)
    rw [hne l fun x hx e2 => by
     subst e2
     have := (List.pairwise_cons.1 h).1 x hx
     rw [Cr.lt_asym this] at h3; cases h3]
def qup (q : D.Ky → Qd) (k : D.Ky) (d : Qd) : D.Ky → Qd := fun y => if y = k then d else q y
theorem qup_at (q : D.Ky → Qd) (k : D.Ky) (d : Qd) : qup q k d k = d := if_pos rfl
theorem qup_ne (q : D.Ky → Qd) {k y : D.Ky} (d : Qd) (h : y ≠ k) : qup q k d y = q y := if_neg h
def fup (f : D.Ky → List D.Vn) (k : D.Ky) (l : List D.Vn) : D.Ky → List D.Vn := fun y => if y = k then l else f y
section
variable {base s g : Nat} {w w' : World} {o : Option Tk} {q : D.Ky → Qd} {lv : Int} {last : Nat} {ks : List D.Ky} {f : D.Ky → List D.Vn} {M : D.Sm}
theorem SK.low (h : SK base w s g o q lv last ks f) {k : D.Ky} (hk : k ∈ ks) : base ≤ (q k).b ∧ ∀ i, at_ (q k).A i → base ≤ i ∧ i < w.heap.size := ⟨(h.cn k hk).gb, fun i hi => (ow_at (h.cn k hk).own hi).2⟩
theorem SK.putc (h : SK base w s g o q lv last ks f) {k : D.Ky} (hk : k ∈ ks) {l : List D.Vn} (hp : Putd base (q k).b (q k).A w l w') : (∃ q', SK base w' s g o q' lv last ks (fup f k l)) ∧ Frm base w w' := by
 obtain ⟨A', c', hC, hO, hN⟩ := hp
 have hck := h.cn k hk
 have hlow := h.low hk
 have out : ∀ {i T cs}, Blk w i T cs → T ≠ cT → T ≠ vT → w'.heap[i]? = w.heap[i]? := fun {i T cs} hB h1 h2 => hO.block i hB.lt fun e => by
  rcases e with e | e
  ·exact ty_ne hB hck.blk.out h1 e
  ·obtain ⟨ds, e2⟩ := ow_block hck.own e
   exact ty_ne hB e2 h2 rfl
 refine ⟨⟨qup q k ⟨(q k).b, A', c'⟩, ⟨(out h.blk (by decide) (by decide)).trans h.blk.out⟩, h.tc.kept fun i hi => ?_, ?_, fun y hy => ?_, fun y hy x hx hne => ?_, h.bs, h.bg⟩, ?_⟩
 ·obtain ⟨cs, T, hB, hT⟩ := h.tc.ty i hi
  exact out hB (by rcases hT with rfl | rfl <;> decide) (by rcases hT with rfl | rfl <;> decide)
 ·rw [h.ls]
  refine List.map_congr_left fun y hy => ?_
  by_cases e : y = k
  ·subst e; rw [qup_at]
  ·rw [qup_ne _ _ e]
 ·by_cases e : y = k
  ·subst e
   rw [qup_at, show fup f y l y = l from if_pos rfl]
   exact hC
  ·rw [qup_ne _ _ e, show fup f k l y = f y from if_neg e]
   obtain ⟨a1, a2⟩ := h.ap y hy k hk e
   obtain ⟨b1, b2⟩ := h.ap k hk y hy (Ne.symm e)
   refine (h.cn y hy).only hO (fun c => ?_) fun i hi c => ?_
   ·rcases c with c | c
    ·exact a1 c
    ·obtain ⟨ds, e2⟩ := ow_block hck.own c
     exact ty_ne (h.cn y hy).blk e2 (by decide) rfl
   ·rcases c with c | c
    ·obtain ⟨ds, e2⟩ := ow_block (h.cn y hy).own hi
     exact ty_ne hck.blk e2 (by decide) c.symm
    ·exact a2 i hi c
 ·have key : ∀ z, z ∈ ks → z ≠ k → ∀ i, at_ (q z).A i → ¬ at_ A' i := fun z hz hzk i hi c => by
   rcases hN i c with hn | hn
   ·exact (h.ap z hz k hk hzk).2 i hi hn
   ·have := ((h.low hz).2 i hi).2; omega
  by_cases e1 : y = k
  ·subst e1
   have e2 : x ≠ y := Ne.symm hne
   rw [qup_at, qup_ne _ _ e2]
   exact ⟨(h.ap y hy x hx hne).1, fun i hi c => key x hx e2 i c hi⟩
  ·rw [qup_ne _ _ e1]
   by_cases e2 : x = k
   ·subst e2
    rw [qup_at]
    exact ⟨(h.ap y hy x hx hne).1, key y hy e1⟩
   ·rw [qup_ne _ _ e2]
    exact h.ap y hy x hx hne
 ·refine Only.more hO fun i c => ?_
  rcases c with rfl | c
  ·exact ⟨hlow.1, _, _, _, hck.blk.out, by decide⟩
  ·obtain ⟨ds, e2⟩ := ow_block hck.own c
   exact ⟨(hlow.2 i c).1, _, _, _, e2, by decide⟩
theorem SK.newk (h : SK base w s g o q lv last ks f) (hu : D.Kup ks) {k : D.Ky} (hk : k ∉ ks) (hf : f k = []) {b : Nat} (hb : Blk w b cT #[.slice none 0 0]) (hbb : base ≤ b) (hbn : ∀ y ∈ ks, (q y).b ≠ b) {o' : Option Tk} (hp : PutC w g o k (some ⟨b, 0, none⟩) w' o') :
  SK base w' s g o' (qup q k ⟨b, none, 0⟩) lv last (D.kins k ks) f ∧ Frm base w w' := by
 have hbn0 := h.bn
 have out : ∀ {i T cs}, Blk w i T cs → T ≠ tT → T ≠ nT → w'.heap[i]? = w.heap[i]? := fun {i T cs} hB h1 h2 => hp.ov.block i hB.lt fun e => by
  obtain ⟨ds, T', hB', hT⟩ := h.tc.ty i e
  have := hB.out.symm.trans hB'.out
  injection this with this
  injection this with _ e2
  rcases hT with rfl | rfl
  ·exact h1 e2
  ·exact h2 e2
 have hO : Only (fun i => i ∈ g :: blo o) w w' := ⟨hp.ov.os, hp.ov.tape, hp.ov.output, hp.ov.size, fun i hi hn => hp.ov.block i hi hn⟩
 refine ⟨⟨⟨(out h.blk (by decide) (by decide)).trans h.blk.out⟩, hp.tc, ?_, fun y hy => ?_, fun y hy x hx hne => ?_, h.bs, fun i hi => ?_⟩, ?_⟩
 ·rw [hp.ls, h.ls, put_kins k _ _ hu]
  refine List.map_congr_left fun y hy => ?_
  by_cases e : y = k
  ·subst e; rw [if_pos rfl, qup_at]
  ·rw [if_neg e, qup_ne _ _ e]
 ·by_cases e : y = k
  ·subst e
   rw [qup_at, hf]
   exact ⟨⟨(out hb (by decide) (by decide)).trans hb.out⟩, Ow.nil _ 11 (Nat.le_trans hbn0 hp.ov.size), hbb, D.Srt.nil, by simp, by simp⟩
  ·rw [qup_ne _ _ e]
   have hy2 : y ∈ ks := by
    rcases (D.kins_mem y).1 hy with rfl | hy
    ·exact absurd rfl e
    ·exact hy
   refine (h.cn y hy2).only hO (fun c => ?_) fun i hi c => ?_
   ·obtain ⟨ds, T', hB', hT⟩ := h.tc.ty _ c
    exact ty_ne (h.cn y hy2).blk hB'.out (by rcases hT with rfl | rfl <;> decide) rfl
   ·obtain ⟨ds, T', hB', hT⟩ := h.tc.ty _ c
    obtain ⟨es, e2⟩ := ow_block (h.cn y hy2).own hi
    exact ty_ne hB' e2 (by rcases hT with rfl | rfl <;> decide) rfl
 ·have inn : ∀ z, z ∈ D.kins k ks → z ≠ k → z ∈ ks := fun z hz hn => by
   rcases (D.kins_mem z).1 hz with rfl | hz
   ·exact absurd rfl hn
   ·exact hz
  have nn : ∀ i, ¬ at_ (none : Option Addr) i := fun i ⟨_, h, _⟩ => by cases h
  by_cases e1 : y = k
  ·subst e1
   rw [qup_at, qup_ne _ _ (Ne.symm hne)]
   exact ⟨fun e => hbn x (inn x hx (Ne.symm hne)) e.symm, fun i hi => absurd hi (nn i)⟩
  ·rw [qup_ne _ _ e1]
   by_cases e2 : x = k
   ·subst e2
    rw [qup_at]
    exact ⟨hbn y (inn y hy e1), fun i _ => nn i⟩
   ·rw [qup_ne _ _ e2]
    exact h.ap y (inn y hy e1) x (inn x hx e2) hne
 ·rcases List.mem_cons.1 hi with rfl | hi
  ·exact h.bg _ (by simp)
  ·rcases hp.old i hi with hi | hi
   ·exact h.bg i (by simp [hi])
   ·omega
 ·refine Only.more hO fun i c => ?_
  obtain ⟨ds, T', hB', hT⟩ := h.tc.ty _ c
  exact ⟨h.bg i c, _, _, _, hB'.out, by rcases hT with rfl | rfl <;> decide⟩
end
end Go.Proofs.YtjlaffgbmcpldaaGreatDoor
namespace Go.Proofs.YtjlaffgbmcpldaaGreatDoor
open Go.RowKit
attribute [local go_sem ↓] Go.wp_at_zero Go.wp_at_succ ld_k lv_k st_k eq_k ne_k bd_k ld_b lv_b st_b eq_b ne_b bd_25 ld_r lv_r st_rk eq_rk ne_rk bd_r ld_p lv_p st_px bd_p Nm.ld_a Nm.ld_n Nm.st_a Nm.st_n Nm.eq_a Nm.eq_n Nm.ne_a Nm.ne_n Nm.lv_a Nm.lv_n ld_a ld_n st_a st_n eq_a eq_n ne_a ne_n lv_a lv_n ld_l lv_l st_l bd_l bd_n bs_k ld_v lv_v st_v ne_v bd_v bs_v ld_rh ld_d lv_rh lv_d st_r st_d ne_rh eq_rh ne_d bd_rh bd_d ld_x lv_x st_x bd_x bs_x ld_e lv_e st_e bd_e bs_e ne_e
attribute [local go_sem] run_ldk run_lvk run_stk run_eqk run_nek run_bdk_z run_ldb run_lvb run_stb run_eqb run_neb run_ldr run_lvr run_strk run_eqrk run_nerk run_bdr_z run_ldp run_lvp run_stpx Nm.run_ld_a Nm.run_ld_n Nm.run_st_n Nm.run_eq_a Nm.run_eq_n Nm.run_ne_a Nm.run_ne_n Nm.run_lv_a Nm.run_lv_n Nm.rd_new Nm.rd_old Nm.rd_drew Nm.rd_drewN run_ld_a run_ld_n run_sw_a run_sw_n run_eq_a run_eq_n run_ne_a run_ne_n run_lv_a run_lv_n st_z ne_z eq_z rd_new rd_old rd_drew rd_drewN Shp.rd_new Shp.rd_old Shp.rd_drew Shp.rd_drewN Shp.rd_set Shp.tn_new Shp.tn_old Shp.tn_drew Shp.tn_drewN tn_new tn_old tn_drew tn_drewN rd_set setRow_alloc run_stn3 run_stt15 run_lvl run_ldl run_stl run_bdl run_bdn run_bdn0 run_bsk Shp.rd_extk cell_ext run_ldv run_lvv run_stv run_nev run_bdv_z run_bdv_d run_bdv_r run_bsv1 run_bsv0 run_ldrh run_ldd run_lvrh run_lvd run_str run_std run_nerh run_eqrh run_ned run_bdr0 run_bdd0 run_bdr1 run_bdd1 run_bdd9 run_ldx run_lvx run_stx run_lde run_lve run_bde run_bse1 run_bdv_3 Shp.rd_extk cell_ext
theorem D.puts_one1 {l : List D.Vn} {v : D.Vn} (h : D.per l v = 0) : D.puts l [v] = (l ++ [v], 1, 0) := by
 rw [D.puts_cons_ok h]; rfl
theorem sput_one {base s g : Nat} {w W : World} {o : Option Tk} {q : D.Ky → Qd} {lv : Int} {last : Nat} {ks : List D.Ky} {f : D.Ky → List D.Vn} (h : SK base w s g o q lv last ks f) {k : D.Ky} (hk : k ∈ ks) (hl : (f k).length < 1000) {v : D.Vn} (hp : D.per (f k) v = 0) (hv : v.wf) (hb : Below w.heap.size w W) :
  Calls Tryz.prog 94 #[.pointer (some ⟨(q k).b, 0, none⟩), .slice (some ⟨W.heap.size, 0, none⟩) 1 1] (W.alloc (.cells (vS.v v) 194)) fun e w' => (∃ u, e = .returned u) ∧ (∃ q', SK base w' s g o q' lv last ks (fup f k (f k ++ [v]))) ∧ Frm base w w' := by
 have h1 := (h.on hb).on (below_alloc_ W (.cells (vS.v v) 194))
 have hc := h1.cn k hk
 have hr : Shp.Row vS (W.alloc (.cells (vS.v v) 194)) (some ⟨W.heap.size, 0, none⟩) 1 [v] := Shp.row_new (S := vS) W 194 W.heap.size [v] rfl (vS.v v) (by simp [Shp.rcs, Shp.v])
 have hlt := (h.cn k hk).blk.lt
 have hz := hb.size
 refine (put_anyh (d := 1) hc hr (fun ad ha _ => ?_) (by simpa using hv) (by omega)).mono ?_
 ·injection ha with ha
  subst ha
  refine ⟨by simp only; omega, fun c => ?_⟩
  have := (ow_at (h.cn k hk).own c).2.2
  simp only at this
  omega
 ·rintro e w' ⟨he, hP⟩
  rw [D.puts_one1 hp] at hP
  obtain ⟨h2, h3⟩ := h1.putc hk hP
  exact ⟨⟨_, he⟩, h2, Frm.off (below_up hb hb.size (below_alloc_ _ _)) h3⟩
set_option maxHeartbeats 8000000 in
theorem sput_any {base s : Nat} {w : World} {lv : Int} {M : D.Sm} (hS : SX base w s lv M) (x : D.Wt) (hx : D.wwg x = 0) (hr : x.r.wf) (hn : D.nwt (M.f x.k) < M.last) (hl : M.last < 1000) (hk : M.ks.length < 1000) :
  Calls Tryz.prog 54 #[.pointer (some ⟨s, 0, none⟩), .agg (xS.v x)] w fun e w' => (∃ u, e = .returned u) ∧ SX base w' s lv (M.put x) ∧ Frm base w w' := by
 obtain ⟨g, o, q, hC⟩ := hS
 have hWF := D.Sm.put_wf hC.wf hx hr hn (by omega)
 have F0 := XF.of (Shp.rd_new (S := xS) w w.heap.size 77 x rfl)
 have B0 := Blk.new w 77 (xS.v x)
 have b0 := below_alloc_ w (.cells (xS.v x) 77)
 obtain ⟨w0, hw0⟩ : ∃ w0, w.alloc (.cells (xS.v x) 77) = w0 := ⟨_, rfl⟩
 rw [hw0] at F0 b0 B0
 have HBX := Lib.hid B0
 have C0 := hC.on b0
 have c0 := C0.blk.c 0
 simp only [List.getElem?_toArray, List.getElem?_cons_zero] at c0
 have c1 := F0.k
 have HF := Lib.hid F0
 have HC := Lib.hid C0
 have HW := Lib.hid hWF
 have hper : Hid (D.per (M.f x.k) (D.vof x M.last) = 0) := Lib.hid (D.per_of hx hn)
 have hvw : Hid ((D.vof x M.last).wf) := Lib.hid ⟨by show M.last < _; omega, D.fkd_wf hr (by omega)⟩
 have hfl : Hid ((M.f x.k).length < 1000) := Lib.hid (Nat.lt_of_le_of_lt (hC.wf.len _) hl)
 have HUP := Lib.hid hC.wf.up
 have CFK := Lib.hid (fun W => forked_any x M.last W)
 have hfin : Hid (fup M.f x.k (M.f x.k ++ [D.vof x M.last]) = (M.put x).f) := Lib.hid (funext fun y => by
  show (if y = x.k then _ else _) = (if y = x.k then _ else _)
  by_cases e : y = x.k
  ·subst e; rfl
  ·rw [if_neg e, if_neg e])
 have CG : Hid (∀ o1 : On, Calls Tryz.prog 92 #[.pointer (some ⟨g, 0, none⟩), .agg (kS.v x.k)] (ext w0 o1) fun e w' => e = .returned (.tuple #[.pointer (got x.k (Cr.Tr.lso o)), .bool (Cr.has x.k (Cr.Tr.lso o))]) ∧ Below (ext w0 o1).heap.size (ext w0 o1) w') := Lib.hid fun o1 => get_any g o x.k _ (HC.out.on (ext_below w0 o1)).tc.tr
 have l0 := HC.out.blk.lt
 have l1 := Shp.rd_lt c1
 clear F0 C0 hWF B0
 by_cases hin : x.k ∈ M.ks
 ·have e1 := HC.out.got_in hin
  have e2 := HC.out.has x.k
  rw [decide_eq_true hin] at e2
  rw [e1, e2] at CG
  have HIN := Lib.hid hin
  clear e1 e2 hin
  go_enter Tryz.func54, Tryz.ntmps54
  go_wp2_with fail
  try rw [hw0]
  clear hw0
  refine wp_region_ext (by kernel_rfl) (by kernel_rfl) ?_
  repeat (go_big_quiet_step ((go_at_call 92; with_reducible exact calls_ext (CG.out _))))
  refine wpQuiet_nil ?_
  intro w3 hw3
  have b3 := ext_to hw3
  clear hw3 c0 c1 CG l0 l1
  go_wp2_with fail
  have HK3 := Lib.hid ((HC.out.on b3).sk)
  have HX := Lib.hid (HBX.out.on b3)
  have HFr : Hid (Frm base w w3) := Lib.hid (Frm.below_ (below_up b0 b0.size b3))
  have cL := HK3.out.blk.c 1
  simp only [List.getElem?_toArray, List.getElem?_cons_succ, List.getElem?_cons_zero] at cL
  have bd : Below w3.heap.size w3 w3.drew := (Below.refl _ _).drew
  have sk : Hid (∀ V, Below w3.heap.size w3 V → V.cell? ⟨s, 1, none⟩ = some (.int .u64 (M.last : Nat)) ∧ XF V w.heap.size x) := Lib.hid fun V hV => ⟨cell_kept_ hV cL, XF.of (Shp.rd_blk (HX.out.on hV))⟩
  have sd := sk.out _ bd
  refine wp_region_noPanic ?_
  refine wp_region_held_drew (S := (fun V => V.cell? ⟨s, 1, none⟩ = some (.int .u64 (M.last : Nat)) ∧ XF V w.heap.size x)) (by kernel_rfl) sd (fun _ => ?_)
  refine takeT 0 (some 28) ?v2 ?hy2 sd ?rest2
  case hy2 => (intro o ho W hW; simp only [gT, gS, gZ, sI] at ho; subst ho; (try dsimp only at hW); go_simp; try rfl)
  try simp only [Act.put, iT, iZ, iS]
  refine takeT 1 (some 29) ?v3 ?hy3 sd ?rest3
  case hy3 => (intro o ho W hW; simp only [gT, gS, gZ, sI] at ho; subst ho; (try dsimp only at hW); go_simp; try rfl)
  try simp only [Act.put, iT, iZ, iS]
  refine takeT 2 (some 30) ?v4 ?hy4 sd ?rest4
  case hy4 => (intro o ho W hW; simp only [gT, gS, gZ, sI] at ho; subst ho; (try dsimp only at hW); go_simp; try rfl)
  try simp only [Act.put, iT, iZ, iS]
  refine takeT 3 (some 31) ?v5 ?hy5 sd ?rest5
  case hy5 => (intro o ho W hW; simp only [gT, gS, gZ, sI] at ho; subst ho; (try dsimp only at hW); go_simp; try rfl)
  try simp only [Act.put, iT, iZ, iS]
  refine takeT 4 (some 32) ?v6 ?hy6 sd ?rest6
  case hy6 => (intro o ho W hW; simp only [gT, gS, gZ, sI] at ho; subst ho; (try dsimp only at hW); obtain ⟨f1_, f2_⟩ := hW; go_simp; try rfl)
  try simp only [Act.put, iT, iZ, iS]
  refine takeT 5 (some 33) ?v7 ?hy7 sd ?rest7
  case hy7 => (intro o ho W hW; simp only [gT, gS, gZ, sI] at ho; subst ho; (try dsimp only at hW); go_simp; try rfl)
  try simp only [Act.put, iT, iZ, iS]
  refine takeT 6 (some 34) ?v8 ?hy8 sd ?rest8
  case hy8 => (intro o ho W hW; simp only [gT, gS, gZ, sI] at ho; subst ho; (try dsimp only at hW); obtain ⟨f1_, f2_⟩ := hW; have f3_ := f2_.d; go_simp; try rfl)
  try simp only [Act.put, iT, iZ, iS]
  refine takeT 7 (some 35) ?v9 ?hy9 sd ?rest9
  case hy9 => (intro o ho W hW; simp only [gT, gS, gZ, sI] at ho; subst ho; (try dsimp only at hW); obtain ⟨f1_, f2_⟩ := hW; have f3_ := f2_.all; go_simp; try rfl)
  try simp only [Act.put, iT, iZ, iS]
  refine takeT 8 (some 36) ?v10 ?hy10 sd ?rest10
  case hy10 => (intro o ho W hW; simp only [gT, gS, gZ, sI] at ho; subst ho; (try dsimp only at hW); go_simp; try rfl)
  try simp only [Act.put, iT, iZ, iS]
  refine takeT 9 (some 37) ?v11 ?hy11 sd ?rest11
  case hy11 => (intro o ho W hW; simp only [gT, gS, gZ, sI] at ho; subst ho; (try dsimp only at hW); go_simp; try rfl)
  try simp only [Act.put, iT, iZ, iS]
  refine takeT 10 (some 38) ?v12 ?hy12 sd ?rest12
  case hy12 => (intro o ho W hW; simp only [gT, gS, gZ, sI] at ho; subst ho; (try dsimp only at hW); go_simp; try rfl)
  try simp only [Act.put, iT, iZ, iS]
  refine takeT 11 (some 39) ?v13 ?hy13 sd ?rest13
  case hy13 => (intro o ho W hW; simp only [gT, gS, gZ, sI] at ho; subst ho; (try dsimp only at hW); obtain ⟨f1_, f2_⟩ := hW; go_simp; try rfl)
  try simp only [Act.put, iT, iZ, iS]
  refine nextS 12 (by kernel_rfl) (by rfl) (fun o ho K hK => ?_)
  simp only [gT, gS, gZ, sI] at ho; subst ho
  go_simp
  go_at_call 95
  (with_reducible refine (CFK.out _).mono ?_)
  rintro e w7 ⟨rfl, b7⟩
  have s7 := below_up bd bd.size b7
  refine hK.out _ _ (sk.out _ s7) (fun _ => ?_)
  clear hK K
  try simp only [Act.put, iT, iZ, iS]
  refine takeS 13 (some 41) (.agg (vS.v (D.vof x M.last))) (by kernel_rfl) (by kernel_rfl) (by kernel_rfl) (by kernel_rfl) (fun _ _ _ h => h) (by rfl) ?hy16 (sk.out _ s7) ?rest16
  case hy16 => (intro o ho W hW; simp only [gT, gS, gZ, sI] at ho; subst ho; (try dsimp only at hW); go_simp; try rfl)
  try simp only [Act.put, iT, iZ, iS]
  refine nextS 14 (by kernel_rfl) (by rfl) (fun o ho K hK => ?_)
  simp only [gT, gS, gZ, sI] at ho; subst ho
  go_simp
  refine hK.out _ _ (sk.out _ (below_up s7 s7.size (below_alloc_ w7 (.cells (vS.v (D.vof x M.last)) 194)))) (fun _ => ?_)
  clear hK K
  try simp only [Act.put, iT, iZ, iS]
  refine nextS 15 (by kernel_rfl) (by rfl) (fun o ho K hK => ?_)
  simp only [gT, gS, gZ, sI] at ho; subst ho
  go_simp
  go_at_call 94
  refine (sput_one HK3.out HIN.out hfl.out hper.out hvw.out s7).mono ?_
  rintro e w9 ⟨⟨u, rfl⟩, ⟨q9, h9⟩, f9⟩
  rw [hfin.out] at h9
  have cL9 := h9.blk.c 1
  simp only [List.getElem?_toArray, List.getElem?_cons_succ, List.getElem?_cons_zero] at cL9
  refine hK.out _ _ ⟨cL9, XF.of (Shp.rd_blk (Frm.blk f9 HX.out (by decide)))⟩ (fun _ => ?_)
  clear hK K
  try simp only [Act.put, iT, iZ, iS]
  refine wpAnyH_done (by kernel_rfl) ?_ _
  refine NoPanic.normal ?_
  go_wp2
  go_end0
  exact ⟨⟨_, rfl⟩, ⟨_, _, q9, by rw [show (M.put x).ks = M.ks from D.kins_old HUP.out HIN.out]; exact h9, HW.out⟩, Frm.trans HFr.out f9⟩
 ·have e1 := HC.out.got_out hin
  have e2 := HC.out.has x.k
  rw [decide_eq_false hin] at e2
  rw [e1, e2] at CG
  have HNI := Lib.hid hin
  have HF0 : Hid (M.f x.k = []) := Lib.hid (HC.out.wf.none hin)
  clear e1 e2 hin
  go_enter Tryz.func54, Tryz.ntmps54
  go_wp2_with fail
  try rw [hw0]
  clear hw0
  refine wp_region_ext (by kernel_rfl) (by kernel_rfl) ?_
  repeat (go_big_quiet_step ((go_at_call 92; with_reducible exact calls_ext (CG.out _))))
  refine wpQuiet_nil ?_
  intro w3 hw3
  have b3 := ext_to hw3
  clear hw3 c0 c1 CG l0 l1
  have HX3 := Lib.hid (HBX.out.on b3)
  have HC3 := Lib.hid (HC.out.on b3)
  obtain ⟨b, hb⟩ : ∃ b, w3.heap.size = b := ⟨_, rfl⟩
  have BC := Blk.new w3 cT #[.slice none 0 0]
  have b4 := below_alloc_ w3 (.cells #[.slice none 0 0] cT)
  rw [hb] at BC
  obtain ⟨w4, hw4⟩ : ∃ w4, w3.alloc (.cells #[.slice none 0 0] cT) = w4 := ⟨_, rfl⟩
  rw [hw4] at BC b4
  have HC4 := Lib.hid (HC3.out.on b4)
  have HX4 := Lib.hid (HX3.out.on b4)
  have HBC := Lib.hid BC
  have hbq : Hid (base ≤ b ∧ ∀ y ∈ M.ks, (q y).b ≠ b) := Lib.hid ⟨by have := HC3.out.sk.bn; omega, fun y hy => by have := (HC3.out.cn y hy).blk.lt; omega⟩
  have c5 := HC4.out.blk.c 0
  simp only [List.getElem?_toArray, List.getElem?_cons_zero] at c5
  go_wp2_with fail
  try rw [hb]
  try rw [hw4]
  clear BC
  have bd := (Below.refl w4.heap.size w4).drew
  have sk4 : Hid (∀ V, Below w4.heap.size w4 V → V.cell? ⟨s, 0, none⟩ = some (.pointer (some ⟨g, 0, none⟩)) ∧ XF V w.heap.size x) := Lib.hid fun V hV => ⟨cell_kept_ hV c5, XF.of (Shp.rd_blk (HX4.out.on hV))⟩
  have sd4 := sk4.out _ bd
  refine wp_region_noPanic ?_
  refine wp_region_held_drew (S := (fun V => V.cell? ⟨s, 0, none⟩ = some (.pointer (some ⟨g, 0, none⟩)) ∧ XF V w.heap.size x)) (by kernel_rfl) sd4 (fun _ => ?_)
  refine takeT 0 (some 20) ?v23 ?hy23 sd4 ?rest23
  case hy23 => (intro o ho W hW; simp only [gT, gS, gZ, sI] at ho; subst ho; (try dsimp only at hW); go_simp; try rfl)
  try simp only [Act.put, iT, iZ, iS]
  refine takeT 1 (some 21) ?v24 ?hy24 sd4 ?rest24
  case hy24 => (intro o ho W hW; simp only [gT, gS, gZ, sI] at ho; subst ho; (try dsimp only at hW); go_simp; try rfl)
  try simp only [Act.put, iT, iZ, iS]
  refine takeT 2 (some 22) ?v25 ?hy25 sd4 ?rest25
  case hy25 => (intro o ho W hW; simp only [gT, gS, gZ, sI] at ho; subst ho; (try dsimp only at hW); go_simp; try rfl)
  try simp only [Act.put, iT, iZ, iS]
  refine takeT 3 (some 23) ?v26 ?hy26 sd4 ?rest26
  case hy26 => (intro o ho W hW; simp only [gT, gS, gZ, sI] at ho; subst ho; (try dsimp only at hW); obtain ⟨f1_, f2_⟩ := hW; go_simp; try rfl)
  try simp only [Act.put, iT, iZ, iS]
  refine takeT 4 (some 24) ?v27 ?hy27 sd4 ?rest27
  case hy27 => (intro o ho W hW; simp only [gT, gS, gZ, sI] at ho; subst ho; (try dsimp only at hW); go_simp; try rfl)
  try simp only [Act.put, iT, iZ, iS]
  refine takeT 5 (some 25) ?v28 ?hy28 sd4 ?rest28
  case hy28 => (intro o ho W hW; simp only [gT, gS, gZ, sI] at ho; subst ho; (try dsimp only at hW); obtain ⟨f1_, f2_⟩ := hW; have f3_ := f2_.k; go_simp; try rfl)
  try simp only [Act.put, iT, iZ, iS]
  refine takeT 6 (some 26) ?v29 ?hy29 sd4 ?rest29
  case hy29 => (intro o ho W hW; simp only [gT, gS, gZ, sI] at ho; subst ho; (try dsimp only at hW); go_simp; try rfl)
  try simp only [Act.put, iT, iZ, iS]
  refine nextS 7 (by kernel_rfl) (by rfl) (fun o ho K hK => ?_)
  simp only [gT, gS, gZ, sI] at ho; subst ho
  go_simp
  go_at_call 93
  refine (put_any g o x.k (some ⟨b, 0, none⟩) _ (HC4.out.on bd).tc (by rw [HC4.out.ls]; simpa using hk)).mono ?_
  rintro e w5 ⟨rfl, o5, hP⟩
  obtain ⟨h5, f5⟩ := (HC4.out.on bd).sk.newk HUP.out HNI.out HF0.out (HBC.out.on bd) hbq.out.1 hbq.out.2 hP
  have HK5 := Lib.hid h5
  have HX := Lib.hid (Frm.blk f5 (HX4.out.on bd) (by decide))
  have HFr : Hid (Frm base w w5) := Lib.hid (Frm.off (below_up (below_up (below_up b0 b0.size b3) (below_up b0 b0.size b3).size b4) (below_up (below_up b0 b0.size b3) (below_up b0 b0.size b3).size b4).size bd) f5)
  have cL5 := h5.blk.c 0
  simp only [List.getElem?_toArray, List.getElem?_cons_zero] at cL5
  have HIN : Hid (x.k ∈ D.kins x.k M.ks) := Lib.hid ((D.kins_mem _).2 (.inl rfl))
  have hqk : Hid ((qup q x.k ⟨b, none, 0⟩ x.k).b = b) := Lib.hid (by rw [qup_at])
  refine hK.out _ _ ⟨cL5, XF.of (Shp.rd_blk HX.out)⟩ (fun _ => ?_)
  clear hK K
  try simp only [Act.put, iT, iZ, iS]
  refine wpAnyH_done (by kernel_rfl) ?_ _
  refine NoPanic.normal ?_
  go_wp2_with fail
  have cL := HK5.out.blk.c 1
  simp only [List.getElem?_toArray, List.getElem?_cons_succ, List.getElem?_cons_zero] at cL
  have bd : Below w5.heap.size w5 w5.drew := (Below.refl _ _).drew
  have sk : Hid (∀ V, Below w5.heap.size w5 V → V.cell? ⟨s, 1, none⟩ = some (.int .u64 (M.last : Nat)) ∧ XF V w.heap.size x) := Lib.hid fun V hV => ⟨cell_kept_ hV cL, XF.of (Shp.rd_blk (HX.out.on hV))⟩
  have sd := sk.out _ bd
  refine wp_region_noPanic ?_
  refine wp_region_held_drew (S := (fun V => V.cell? ⟨s, 1, none⟩ = some (.int .u64 (M.last : Nat)) ∧ XF V w.heap.size x)) (by kernel_rfl) sd (fun _ => ?_)
  refine takeT 0 (some 28) ?v34 ?hy34 sd ?rest34
  case hy34 => (intro o ho W hW; simp only [gT, gS, gZ, sI] at ho; subst ho; (try dsimp only at hW); go_simp; try rfl)
  try simp only [Act.put, iT, iZ, iS]
  refine takeT 1 (some 29) ?v35 ?hy35 sd ?rest35
  case hy35 => (intro o ho W hW; simp only [gT, gS, gZ, sI] at ho; subst ho; (try dsimp only at hW); go_simp; try rfl)
  try simp only [Act.put, iT, iZ, iS]
  refine takeT 2 (some 30) ?v36 ?hy36 sd ?rest36
  case hy36 => (intro o ho W hW; simp only [gT, gS, gZ, sI] at ho; subst ho; (try dsimp only at hW); go_simp; try rfl)
  try simp only [Act.put, iT, iZ, iS]
  refine takeT 3 (some 31) ?v37 ?hy37 sd ?rest37
  case hy37 => (intro o ho W hW; simp only [gT, gS, gZ, sI] at ho; subst ho; (try dsimp only at hW); go_simp; try rfl)
  try simp only [Act.put, iT, iZ, iS]
  refine takeT 4 (some 32) ?v38 ?hy38 sd ?rest38
  case hy38 => (intro o ho W hW; simp only [gT, gS, gZ, sI] at ho; subst ho; (try dsimp only at hW); obtain ⟨f1_, f2_⟩ := hW; go_simp; try rfl)
  try simp only [Act.put, iT, iZ, iS]
  refine takeT 5 (some 33) ?v39 ?hy39 sd ?rest39
  case hy39 => (intro o ho W hW; simp only [gT, gS, gZ, sI] at ho; subst ho; (try dsimp only at hW); go_simp; try rfl)
  try simp only [Act.put, iT, iZ, iS]
  refine takeT 6 (some 34) ?v40 ?hy40 sd ?rest40
  case hy40 => (intro o ho W hW; simp only [gT, gS, gZ, sI] at ho; subst ho; (try dsimp only at hW); obtain ⟨f1_, f2_⟩ := hW; have f3_ := f2_.d; go_simp; try rfl)
  try simp only [Act.put, iT, iZ, iS]
  refine takeT 7 (some 35) ?v41 ?hy41 sd ?rest41
  case hy41 => (intro o ho W hW; simp only [gT, gS, gZ, sI] at ho; subst ho; (try dsimp only at hW); obtain ⟨f1_, f2_⟩ := hW; have f3_ := f2_.all; go_simp; try rfl)
  try simp only [Act.put, iT, iZ, iS]
  refine takeT 8 (some 36) ?v42 ?hy42 sd ?rest42
  case hy42 => (intro o ho W hW; simp only [gT, gS, gZ, sI] at ho; subst ho; (try dsimp only at hW); go_simp; try rfl)
  try simp only [Act.put, iT, iZ, iS]
  refine takeT 9 (some 37) ?v43 ?hy43 sd ?rest43
  case hy43 => (intro o ho W hW; simp only [gT, gS, gZ, sI] at ho; subst ho; (try dsimp only at hW); go_simp; try rfl)
  try simp only [Act.put, iT, iZ, iS]
  refine takeT 10 (some 38) ?v44 ?hy44 sd ?rest44
  case hy44 => (intro o ho W hW; simp only [gT, gS, gZ, sI] at ho; subst ho; (try dsimp only at hW); go_simp; try rfl)
  try simp only [Act.put, iT, iZ, iS]
  refine takeT 11 (some 39) ?v45 ?hy45 sd ?rest45
  case hy45 => (intro o ho W hW; simp only [gT, gS, gZ, sI] at ho; subst ho; (try dsimp only at hW); obtain ⟨f1_, f2_⟩ := hW; go_simp; try rfl)
  try simp only [Act.put, iT, iZ, iS]
  refine nextS 12 (by kernel_rfl) (by rfl) (fun o ho K hK => ?_)
  simp only [gT, gS, gZ, sI] at ho; subst ho
  go_simp
  go_at_call 95
  (with_reducible refine (CFK.out _).mono ?_)
  rintro e w7 ⟨rfl, b7⟩
  have s7 := below_up bd bd.size b7
  refine hK.out _ _ (sk.out _ s7) (fun _ => ?_)
  clear hK K
  try simp only [Act.put, iT, iZ, iS]
  refine takeS 13 (some 41) (.agg (vS.v (D.vof x M.last))) (by kernel_rfl) (by kernel_rfl) (by kernel_rfl) (by kernel_rfl) (fun _ _ _ h => h) (by rfl) ?hy48 (sk.out _ s7) ?rest48
  case hy48 => (intro o ho W hW; simp only [gT, gS, gZ, sI] at ho; subst ho; (try dsimp only at hW); go_simp; try rfl)
  try simp only [Act.put, iT, iZ, iS]
  refine nextS 14 (by kernel_rfl) (by rfl) (fun o ho K hK => ?_)
  simp only [gT, gS, gZ, sI] at ho; subst ho
  go_simp
  refine hK.out _ _ (sk.out _ (below_up s7 s7.size (below_alloc_ w7 (.cells (vS.v (D.vof x M.last)) 194)))) (fun _ => ?_)
  clear hK K
  try simp only [Act.put, iT, iZ, iS]
  refine nextS 15 (by kernel_rfl) (by rfl) (fun o ho K hK => ?_)
  simp only [gT, gS, gZ, sI] at ho; subst ho
  go_simp
  go_at_call 94
  rw [← hqk.out]; refine (sput_one HK5.out HIN.out hfl.out hper.out hvw.out s7).mono ?_
  rintro e w9 ⟨⟨u, rfl⟩, ⟨q9, h9⟩, f9⟩
  rw [hfin.out] at h9
  have cL9 := h9.blk.c 1
  simp only [List.getElem?_toArray, List.getElem?_cons_succ, List.getElem?_cons_zero] at cL9
  refine hK.out _ _ ⟨cL9, XF.of (Shp.rd_blk (Frm.blk f9 HX.out (by decide)))⟩ (fun _ => ?_)
  clear hK K
  try simp only [Act.put, iT, iZ, iS]
  refine wpAnyH_done (by kernel_rfl) ?_ _
  refine NoPanic.normal ?_
  go_wp2
  go_end0
  exact ⟨⟨_, rfl⟩, ⟨_, _, q9, h9, HW.out⟩, Frm.trans HFr.out f9⟩
theorem or_two (a b : Int) (g c : Nat) (w : World) (h0 : w.cell? ⟨g, 0, none⟩ = some (.int .i64 a)) (h1 : w.cell? ⟨g, 1, none⟩ = some (.int .i64 b)) : Calls Tryz.prog 51 #[.slice (some ⟨g, 0, none⟩) 2 c] w fun e w' => e = .returned (.int .i64 (if a ≠ 0 then a else b)) ∧ w' = w := by
 by_cases ha : a = 0
 ·have i1 : (a == 0) = true := by simp [ha]
  have i2 : (a != 0) = false := by simp [ha]
  rw [if_neg (by simp [ha])]
  by_cases hb : b = 0
  ·have j1 : (b == 0) = true := by simp [hb]
   have j2 : (b != 0) = false := by simp [hb]
   have hz : Kept (b = 0) := ⟨hb⟩
   clear ha hb
   go_enter Tryz.func51, Tryz.ntmps51
   go_wp2_with fail
   go_loopw [5, 8] (fun x i wr => ∃ j : Nat, j ≤ 2 ∧ i = .int .i64 j ∧ wr = w) (fun _ i _ => 2 - (intOf i).toNat)
   case atStart => exact ⟨0, by omega, rfl, rfl⟩
   case round =>
    obtain ⟨j, hj, rfl, rfl⟩ := hrel
    obtain rfl | rfl | rfl : j = 0 ∨ j = 1 ∨ j = 2 := by omega
    ·go_wp2
     go_roundw
     case rel => exact ⟨1, by omega, rfl, trivial⟩
     case measure => simp [intOf]
    ·go_wp2
     go_roundw
     case rel => exact ⟨2, by omega, rfl, trivial⟩
     case measure => simp [intOf]
    ·go_wp2
     go_ret
     exact ⟨by rw [hz.out]; rfl, rfl⟩
  ·have j1 : (b == 0) = false := by simp [hb]
   have j2 : (b != 0) = true := by simp [hb]
   clear ha hb
   go_enter Tryz.func51, Tryz.ntmps51
   go_wp2_with fail
   go_loopw [5, 8] (fun x i wr => ∃ j : Nat, j ≤ 1 ∧ i = .int .i64 j ∧ wr = w) (fun _ i _ => 2 - (intOf i).toNat)
   case atStart => exact ⟨0, by omega, rfl, rfl⟩
   case round =>
    obtain ⟨j, hj, rfl, rfl⟩ := hrel
    obtain rfl | rfl : j = 0 ∨ j = 1 := by omega
    ·go_wp2
     go_roundw
     case rel => exact ⟨1, by omega, rfl, trivial⟩
     case measure => simp [intOf]
    ·go_wp2
     go_ret
     exact ⟨rfl, rfl⟩
 ·have i1 : (a == 0) = false := by simp [ha]
  have i2 : (a != 0) = true := by simp [ha]
  rw [if_pos ha]
  clear ha
  go_enter Tryz.func51, Tryz.ntmps51
  go_wp2_with fail
  go_loopw [5, 8] (fun x i wr => i = .int .i64 0 ∧ wr = w) (fun _ i _ => 2 - (intOf i).toNat)
  case atStart => exact ⟨rfl, rfl⟩
  case round =>
   obtain ⟨rfl, rfl⟩ := hrel
   go_wp2
   go_ret
   exact ⟨rfl, rfl⟩
theorem cells2 (w : World) (T : TypeId) (a b : Value) : (w.alloc (.cells #[a, b] T)).cell? ⟨w.heap.size, 0, none⟩ = some a ∧ (w.alloc (.cells #[a, b] T)).cell? ⟨w.heap.size, 1, none⟩ = some b := ⟨(Blk.new w T #[a, b]).c 0, (Blk.new w T #[a, b]).c 1⟩
structure XR (w : World) (A : Option Addr) (n : Nat) (l : List D.Wt) : Prop where
 row : Shp.Row xS w A n l
 ap : ∀ ad, A = some ad → 0 < n → ¬ Sty w ad.block
theorem XR.on {w w' : World} {A : Option Addr} {n : Nat} {l : List D.Wt} (h : XR w A n l) (hb : Below w.heap.size w w') : XR w' A n l := ⟨h.row.on hb, fun ad e hn ⟨cs, T, f, h2, h3⟩ => by
 obtain ⟨ad', e', hl, _⟩ := h.row.tow (by omega)
 rw [e] at e'; injection e' with e'; subst e'
 exact h.ap ad e hn ⟨cs, T, f, (hb.block _ hl).symm.trans h2, h3⟩⟩
theorem XR.fr {base : Nat} {w w' : World} {A : Option Addr} {n : Nat} {l : List D.Wt} (h : XR w A n l) (hb : Frm base w w') : XR w' A n l := by
 have key : ∀ ad, A = some ad → 0 < n → w'.heap[ad.block]? = w.heap[ad.block]? := fun ad e hn => by
  obtain ⟨ad', e', hl, _⟩ := h.row.tow (by omega)
  rw [e] at e'; injection e' with e'; subst e'
  exact hb.block _ hl fun c => h.ap ad e hn c.2
 rcases Nat.eq_zero_or_pos n with rfl | hn
 ·have : l = [] := List.eq_nil_of_length_eq_zero h.row.len
  subst this
  exact ⟨⟨rfl, fun h => absurd h (by omega)⟩, fun _ _ h => absurd h (by omega)⟩
 ·exact ⟨h.row.kept hb.size fun ad e => key ad e hn, fun ad e hn ⟨cs, T, f, h2, h3⟩ => h.ap ad e hn ⟨cs, T, f, (key ad e hn).symm.trans h2, h3⟩⟩
theorem D.Rts.at {l : List D.Wt} : ∀ {M : D.Sm} {j : Nat} {x : D.Wt}, D.Rts M l → l[j]? = some x → D.wwg x = 0 ∧ x.r.wf ∧ D.nwt ((M.puts (l.take j)).f x.k) < M.last := by
 induction l with
 | nil => intro M j x _ h; simp at h
 | cons y l ih =>
  intro M j x h hx
  cases j with
  | zero =>
   simp only [List.getElem?_cons_zero, Option.some.injEq] at hx
   subst hx
   exact ⟨h.ok y (by simp), h.rw y (by simp), h.nw y (by simp)⟩
  | succ j =>
   rw [List.getElem?_cons_succ] at hx
   exact ih h.next hx
theorem SC.setl {base s g : Nat} {w : World} {o : Option Tk} {q : D.Ky → Qd} {lv : Int} {M : D.Sm} (h : SC base w s g o q lv M) (lv' : Int) : SC base ((w.setCell ⟨s, 2, none⟩ (.int .i64 lv')).setCell ⟨s, 1, none⟩ (.int .u64 ((M.last + 1 : Nat) : Int))) s g o q lv' M.tick ∧ Frm base w ((w.setCell ⟨s, 2, none⟩ (.int .i64 lv')).setCell ⟨s, 1, none⟩ (.int .u64 ((M.last + 1 : Nat) : Int))) := by
 have hB := (h.blk.put 2 (.int .i64 lv')).put 1 (.int .u64 ((M.last + 1 : Nat) : Int))
 have hO : Only (fun i => i = s) w ((w.setCell ⟨s, 2, none⟩ (.int .i64 lv')).setCell ⟨s, 1, none⟩ (.int .u64 ((M.last + 1 : Nat) : Int))) := Only.set (p := ⟨s, 1, none⟩) (Only.set (p := ⟨s, 2, none⟩) (Only.self (fun i => i = s) w) (.inl rfl) _) (.inl rfl) _
 have out : ∀ {i T cs}, Blk w i T cs → T ≠ sT → i ≠ s := fun hB' hT => ty_ne hB' h.blk.out hT
 refine ⟨⟨⟨by rw [show M.tick.last = M.last + 1 from rfl]; simpa using hB, h.tc.kept fun i hi => ?_, h.ls, fun k hk => ?_, h.sk.ap, h.sk.bs, h.sk.bg⟩, D.Sm.tick_wf h.wf⟩, Only.more hO fun i hi => ?_⟩
 ·obtain ⟨cs, T, hB', hT⟩ := h.tc.ty i hi
  exact hO.block i hB'.lt (out hB' (by rcases hT with rfl | rfl <;> decide))
 ·refine (h.cn k hk).only hO (out (h.cn k hk).blk (by decide)) fun i hi c => ?_
  obtain ⟨ds, e2⟩ := ow_block (h.cn k hk).own hi
  exact ty_ne h.blk e2 (by decide) c.symm
 ·subst hi
  exact ⟨h.sk.bs, _, _, _, h.blk.out, by decide⟩
set_option maxHeartbeats 16000000 in
theorem spub_any (hR : KRt) {base s : Nat} {w : World} {M : D.Sm} (hS : SM base w s M) (hl : M.last < 999) (hk : M.ks.length ≤ 980) {A : Option Addr} {n c : Nat} {l : List D.Wt} (hx : XR w A n l) (hw : ∀ x ∈ l, x.r.wf) (hn : n ≤ 1000) :
  Calls Tryz.prog 17 #[.pointer (some ⟨s, 0, none⟩), .slice A n c] w fun e w' => e = .returned (.tuple #[.int .u64 (M.time l : Nat), .int .i64 (M.err l : Nat)]) ∧ SM base w' s (M.pub l) ∧ Frm base w w' := by
 have HS := Lib.hid hS
 have HX := Lib.hid hx
 have HWF := Lib.hid hS.wf
 have CC := Lib.hid (fun W (hb : Below w.heap.size w W) => scheck_any (c := c) hR (hx.row.on hb) hw (by simp only [maxLen]; omega))
 have CR := Lib.hid (fun W (hb : Below w.heap.size w W) => sroom_any (c := c) (hS.on hb) (by omega) (by omega) (hx.row.on hb) hn)
 have CG := Lib.hid (fun W (hb : Below w.heap.size w W) => sgrown_any (c := c) (hS.on hb) (by omega) (by omega) (hx.row.on hb) hn)
 obtain ⟨rm, hrm⟩ : ∃ rm : Int, (if 200 < D.grw M l then 6 else 0 : Int) = rm := ⟨_, rfl⟩
 rw [hrm] at CR
 have he : (M.err l : Int) = if ((D.sck l : Nat) : Int) ≠ 0 then ((D.sck l : Nat) : Int) else rm := by
  rw [← hrm]
  unfold D.Sm.err
  by_cases h1 : D.sck l = 0
  ·by_cases h2 : 200 < D.grw M l
   ·simp [h1, h2]
   ·simp [h1, h2]
  ·simp [h1]
 obtain ⟨er, her⟩ : ∃ er, M.err l = er := ⟨_, rfl⟩
 rw [her] at he
 have HE := Lib.hid he
 clear hS hx he hrm
 by_cases h0 : er = 0
 ·subst h0
  have hok := D.Sm.err_ok her
  have e1 : M.time l = M.last + 1 := by unfold D.Sm.time; rw [if_pos her]
  have e2 : M.pub l = M.app l := by unfold D.Sm.pub; rw [if_pos her]
  rw [e1, e2, her]
  have HRT := Lib.hid (D.Sm.wf.rts HWF.out hok.1 hw)
  have HLV := Lib.hid (D.Sm.app_live HWF.out hok.1 hw (by omega))
  have hlen : Kept (l.length = n) := ⟨HX.out.row.len⟩
  have hpl : Hid (∀ j, (M.tick.puts (l.take j)).ks.length ≤ M.ks.length + j) := Lib.hid fun j => by
   have h1 := D.Sm.puts_len (l.take j) M.tick
   have h2 : (l.take j).length ≤ j := by simp; omega
   have h3 : M.tick.ks.length = M.ks.length := rfl
   omega
  have hn16 := (D.sck_ok hok.1).2.1
  have hn16 : n ≤ 16 := by rw [← hlen.out]; exact hn16
  obtain ⟨lv, hlv⟩ : ∃ lv, D.grw M l = lv := ⟨_, rfl⟩
  rw [hlv] at CG HLV
  have HOR : Hid (((if ((D.sck l : Nat) : Int) ≠ 0 then ((D.sck l : Nat) : Int) else rm) : Int) = 0) := Lib.hid HE.out.symm
  clear e1 e2 her hok hlv
  obtain ⟨la, hla⟩ : ∃ la, M.last = la := ⟨_, rfl⟩
  rw [hla] at hl
  have hla63 : la + 1 < 1000 := by omega
  rw [hla]
  go_enter Tryz.func17, Tryz.ntmps17
  go_wp2_with (first
   | (go_at_call 10; (with_reducible refine (CC.out _ (Below.refl _ _)).mono ?_); rintro e w1 ⟨rfl, b1⟩)
   | (go_at_call 52; (with_reducible refine (CR.out _ b1).mono ?_); rintro e w2 ⟨rfl, b2⟩; have z2 := below_up b1 b1.size b2)
   | (go_at_call 51; refine (or_two ((D.sck l : Nat) : Int) rm w2.heap.size 2 _ (cells2 _ _ _ _).1 (cells2 _ _ _ _).2).mono ?_; rintro e w3 ⟨rfl, rfl⟩; rw [HOR.out]; have z3 := Lib.hid (below_up z2 z2.size (below_alloc_ w2 (.cells #[.int .i64 ((D.sck l : Nat) : Int), .int .i64 rm] 25))))
   | (go_at_call 53; (with_reducible refine (CG.out _ z3.out).mono ?_); rintro e w4 ⟨rfl, b4⟩; have z4 := Lib.hid (below_up z3.out z3.out.size b4); obtain ⟨g, o, q, hC⟩ := HS.out.on z4.out; have HC := Lib.hid hC; have f2 := hC.blk.f 2; have c2 := hC.blk.c 2; have c21 := (hC.blk.put 2 (.int .i64 lv)).c 1; have f21 := (hC.blk.put 2 (.int .i64 lv)).f 1; rw [hla] at c21 c2; simp only [List.getElem?_toArray, List.getElem?_cons_succ, List.getElem?_cons_zero, List.setIfInBounds_toArray, List.set_cons_succ, List.set_cons_zero] at c21 c2; clear hC))
  obtain ⟨hT, hF⟩ := HC.out.setl lv
  rw [show ((M.last + 1 : Nat) : Int) = (la : Int) + 1 by omega] at hT hF
  have hF4 := Lib.hid (Frm.off (base := base) z4.out hF)
  have hT4 := Lib.hid hT
  clear c2 f2 c21 f21 hT hF
  obtain ⟨w5, hw5⟩ : ∃ w5, (w4.setCell ⟨s, 2, none⟩ (.int .i64 lv)).setCell ⟨s, 1, none⟩ (.int .u64 ((la : Int) + 1)) = w5 := ⟨_, rfl⟩
  rw [hw5] at hF4 hT4 ⊢
  clear hw5
  go_loopw [36] (fun i wr => ∃ j : Nat, j ≤ n ∧ i = .int .i64 j ∧ Hid (SX base wr s lv (M.tick.puts (l.take j))) ∧ Hid (Frm base w wr)) (fun i _ => n - (intOf i).toNat)
  case atStart => exact ⟨0, Nat.zero_le _, rfl, Lib.hid ⟨g, o, q, hT4.out⟩, hF4⟩
  case round =>
   obtain ⟨j, hj, rfl, hX, hF⟩ := hrel
   clear hT4 hF4 HC
   by_cases hlt : j < n
   ·obtain ⟨x, hx⟩ : ∃ x, l[j]? = some x := ⟨_, List.getElem?_eq_getElem (by rw [hlen.out]; exact hlt)⟩
    obtain ⟨ad, hAe, hal, hrd⟩ := (HX.out.fr hF.out).row.rd hx
    have hrd : xS.rd wr (ad.add (j * 35)) = some x := hrd
    subst hAe
    have j1 : (j : Int) < (n : Int) := by omega
    have j0 : (0 : Int) ≤ (j : Int) := by omega
    obtain ⟨r1, r2, r3⟩ := D.Rts.at HRT.out hx
    have hT := Lib.hid (stk_next hx)
    have hla2 : (M.tick.puts (l.take j)).last = la + 1 := by rw [D.Sm.puts_last]; show M.last + 1 = _; omega
    have hpj := hpl.out j
    have f1 := Shp.rd_new (S := xS) wr wr.heap.size 77 x rfl
    have bx := below_alloc_ wr (.cells (xS.v x) 77)
    obtain ⟨w6, hw6⟩ : ∃ w6, wr.alloc (.cells (xS.v x) 77) = w6 := ⟨_, rfl⟩
    rw [hw6] at f1 bx
    have CP := Lib.hid (sput_any (hX.out.on bx) x r1 r2 (by rw [hla2]; have : M.tick.last = la + 1 := (by show M.last + 1 = _; omega); omega) (by omega) (by omega))
    clear hx r1 r2 r3 hpj hla2
    go_wp2_with fail
    try rw [hw6]
    clear hw6
    go_wp2_with (go_at_call 54; (refine CP.out.mono ?_); rintro e w7 ⟨⟨u, rfl⟩, h7, f7⟩)
    go_roundw
    case rel => exact ⟨j + 1, by omega, by go_num, Lib.hid (by rw [hT.out, D.Sm.puts_snoc]; exact h7), Lib.hid (Frm.trans (hF.out.on bx) f7)⟩
    case measure => simp [intOf]; omega
   ·obtain rfl : n = j := by omega
    have hT := Lib.hid (show l.take n = l by rw [← hlen.out]; exact List.take_length)
    rw [hT.out] at hX
    obtain ⟨g9, o9, q9, h9⟩ := hX.out
    have c9 := h9.blk.c 1
    rw [D.Sm.puts_last, show M.tick.last = la + 1 by show M.last + 1 = _; omega] at c9
    simp only [List.getElem?_toArray, List.getElem?_cons_succ, List.getElem?_cons_zero] at c9
    have H9 : Hid (SM base wr s (M.app l)) := Lib.hid ⟨g9, o9, q9, by rw [HLV.out]; exact h9⟩
    clear h9
    go_wp2
    go_ret2
    exact ⟨rfl, H9.out, hF.out⟩
 ·have e1 : M.time l = 0 := by unfold D.Sm.time; rw [if_neg (by rw [her]; exact h0)]
  have e2 : M.pub l = M := by unfold D.Sm.pub; rw [if_neg (by rw [her]; exact h0)]
  rw [e1, e2, her]
  have i1 : ((er : Int) == 0) = false := by simp; omega
  have i2 : ((er : Int) != 0) = true := by simp; omega
  clear e1 e2 her
  go_enter Tryz.func17, Tryz.ntmps17
  go_wp2_with (first
   | (go_at_call 10; (with_reducible refine (CC.out _ (Below.refl _ _)).mono ?_); rintro e w1 ⟨rfl, b1⟩)
   | (go_at_call 52; (with_reducible refine (CR.out _ b1).mono ?_); rintro e w2 ⟨rfl, b2⟩; have z2 := below_up b1 b1.size b2)
   | (go_at_call 51; refine (or_two ((D.sck l : Nat) : Int) rm w2.heap.size 2 _ (cells2 _ _ _ _).1 (cells2 _ _ _ _).2).mono ?_; rintro e w3 ⟨rfl, rfl⟩; rw [← HE.out]))
  go_ret2
  have z3 := below_up z2 z2.size (below_alloc_ w2 (.cells #[.int .i64 ((D.sck l : Nat) : Int), .int .i64 rm] 25))
  exact ⟨rfl, HS.out.on z3, Frm.below_ z3⟩
end Go.Proofs.YtjlaffgbmcpldaaGreatDoor
