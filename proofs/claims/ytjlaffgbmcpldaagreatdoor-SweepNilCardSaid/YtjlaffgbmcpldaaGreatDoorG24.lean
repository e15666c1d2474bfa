/-
  
-/
import Derived.Test.YtjlaffgbmcpldaaGreatDoorG10
import Derived.Test.YtjlaffgbmcpldaaGreatDoorG13
import Derived.Test.YtjlaffgbmcpldaaGreatDoorG09
import Derived.BigQuiet
import Derived.Test.YtjlaffgbmcpldaaGreatDoorG23
set_option linter.unusedVariables false
set_option linter.unusedSimpArgs false
set_option maxRecDepth 100000
namespace Go.Proofs.YtjlaffgbmcpldaaGreatDoor
open Go.RowKit
attribute [local go_sem ↓] Go.wp_at_zero Go.wp_at_succ ld_k lv_k st_k eq_k ne_k bd_k ld_b lv_b st_b eq_b ne_b bd_25 ld_r lv_r st_rk eq_rk ne_rk bd_r ld_p lv_p st_px bd_p Nm.ld_a Nm.ld_n Nm.st_a Nm.st_n Nm.eq_a Nm.eq_n Nm.ne_a Nm.ne_n Nm.lv_a Nm.lv_n ld_a ld_n st_a st_n eq_a eq_n ne_a ne_n lv_a lv_n
attribute [local go_sem] run_ldk run_lvk run_stk run_eqk run_nek run_bdk_z run_ldb run_lvb run_stb run_eqb run_neb run_ldr run_lvr run_strk run_eqrk run_nerk run_bdr_z run_ldp run_lvp run_stpx Nm.run_ld_a Nm.run_ld_n Nm.run_st_n Nm.run_eq_a Nm.run_eq_n Nm.run_ne_a Nm.run_ne_n Nm.run_lv_a Nm.run_lv_n Nm.rd_new Nm.rd_old Nm.rd_drew Nm.rd_drewN run_ld_a run_ld_n run_sw_a run_sw_n run_eq_a run_eq_n run_ne_a run_ne_n run_lv_a run_lv_n st_z ne_z eq_z rd_new rd_old rd_drew rd_drewN Shp.rd_new Shp.rd_old Shp.rd_drew Shp.rd_drewN Shp.rd_set Shp.tn_new Shp.tn_old Shp.tn_drew Shp.tn_drewN tn_new tn_old tn_drew tn_drewN rd_set setRow_alloc run_stn3 run_stt15

theorem from_belowk {w w1 w2 : World} {o : Obj} {row : Option Nat} (h : Below w.heap.size w w1) (hg : (w1.alloc o).grownBy w2 row) (hr : ∀ k, row = some k → w.heap.size ≤ k) : Below w.heap.size w w2 :=
 (h.alloc h.size o).grown hg (by simp; have := h.size; omega) hr

theorem own_low {b base : Nat} {w : World} {A : Option Addr} {n c : Nat} {l : List Nat} (h : Own base w A n c l) (hb : b ≤ base) : Own b w A n c l := by
 refine ⟨⟨h.row.1, ?_⟩, Nat.le_trans hb h.base⟩
 rcases h.row.2 with hz | ⟨g, cap, cur, e, hg, r⟩
 ·exact .inl hz
 ·exact .inr ⟨g, cap, cur, e, Nat.le_trans hb hg, r⟩

set_option maxHeartbeats 400000 in
theorem kclone_any (A : Option Addr) (n c : Nat) (l : List Nat) (w : World) (ha : Row w A n (bys l)) (hn : n ≤ 1000000) :
  Calls Tryz.prog 135 #[.slice A n c] w (Made w l) := by
 cases A with
 | none =>
  have h0 : n = 0 := by
   rcases Nat.eq_zero_or_pos n with h0 | h0
   ·exact h0
   ·obtain ⟨ad, h, _⟩ := ha.tow h0
    cases h
  subst h0
  have hl : l = [] := List.eq_nil_of_length_eq_zero (by have := ha.len; rwa [bys_len] at this)
  subst hl
  have he : ∀ W : World, (binOp .eql 210 (.slice none 0 c) (.slice none 0 0)).run Tryz.prog W = .ok (.bool true) W := fun _ => rfl
  go_enter Tryz.func135, Tryz.ntmps135
  go_wp2
  go_ret
  exact made (Own.nil (Nat.le_refl _)) (Below.refl _ _)
 | some ad =>
  have HO : Own w.heap.size (w.alloc (.cells #[] 5)) (some ⟨w.heap.size, 0, none⟩) 0 0 [] := ⟨World.ownsRow_lit w #[] 0 (Nat.le_refl _) (by simp [maxLen]) rfl, by simp⟩
  have he : ∀ W : World, (binOp .eql 210 (.slice (some ad) n c) (.slice none 0 0)).run Tryz.prog W = .ok (.bool false) W := fun _ => rfl
  go_enter Tryz.func135, Tryz.ntmps135
  go_wp2_with (at_builtin; refine app _ rfl (.tmp 5) (.tmp 6) rfl rfl HO rfl (ha.alloc _) (by omega) ?_; intro A1 c1 w1 ho1 hg1 hat1; rw [Nat.zero_add, List.nil_append] at ho1)
  go_ret
  exact made_of ho1 rfl (from_belowk (Below.refl _ _) hg1 (fun k hk => by simp [Value.ownBlock] at hk; omega))

set_option maxHeartbeats 4000000 in
theorem pbytes_any (q : D.Px) (w : World) : Calls Tryz.prog 106 #[.agg (pS.v q)] w (Made w (q.x.l.take (D.ends q.d))) := by
 have f0 := Shp.rd_new (S := pS) w _ 41 q rfl
 obtain ⟨g0, c0⟩ := pf0 f0
 have CB := Lib.hid (kbytes_any q.x)
 have CE := Lib.hid (end_any q.d)
 have hn := D.ends_le q.d
 obtain ⟨n, hnn⟩ : ∃ n, D.ends q.d = n := ⟨_, rfl⟩
 rw [hnn] at CE hn
 have i0 : (0 : Int) ≤ (n : Int) := by omega
 have i1 : (n : Int) ≤ 25 := by omega
 have hlen : (q.x.l.take n).length = n := by rw [List.length_take, q.x.len]; omega
 rw [hnn]
 clear hnn
 go_enter Tryz.func106, Tryz.ntmps106
 go_wp2_with (first
  | (go_at_call 131; (with_reducible refine (CB.out _).mono ?_); rintro e w1 ⟨rfl, b1⟩; have z1 := (below_up (below_alloc_ _ _) (by simp) b1).alloc (below_up (below_alloc_ _ _) (by simp) b1).size (.cells (kS.v q.x) 201); have c1 := cell_kept_ (b1.alloc b1.size (.cells (kS.v q.x) 201)) c0; have r1 := Shp.rd_new (S := kS) w1 _ 201 q.x rfl)
  | (go_at_call 136; (with_reducible refine (CE.out _).mono ?_); rintro e w2 ⟨rfl, rfl⟩)
  | (go_at_call 135; (with_reducible refine (kclone_any _ n 25 (q.x.l.take n) _ ?hrow (by omega)).mono ?_)))
 case hrow =>
  have hr : Row (w1.alloc (.cells (kS.v q.x) 201)) (some ⟨w1.heap.size, 0, none⟩) 25 (bys q.x.l) := ⟨by rw [bys_len, q.x.len], fun _ => ⟨_, rfl, Shp.rd_lt r1, Shp.at_of r1⟩⟩
  have := hr.take (k := n) hn
  rw [bys_take] at this
  exact this
 rintro e w3 ⟨A, c, rfl, ho, b3⟩
 rw [hlen] at ho
 rw [hlen]
 go_wp2
 go_ret
 refine ⟨A, c, by rw [hlen]; rfl, ?_, below_up z1 z1.size b3⟩
 rw [hlen]
 exact own_low ho z1.size
end Go.Proofs.YtjlaffgbmcpldaaGreatDoor
namespace Go.Proofs.YtjlaffgbmcpldaaGreatDoor
open Go.RowKit
theorem Shp.rd_ext_ {α : Type} {S : Shp α} (w : World) (p : On) (a : Addr) (h : a.block < w.heap.size) : S.rd (ext w p) a = S.rd w a := Shp.rd_to (ext_heap w p h)
theorem Nm.rd_ext_ (w : World) (p : On) (a : Addr) (h : a.block < w.heap.size) : Nm.rd (ext w p) a = Nm.rd w a := Nm.rd_to (ext_heap w p h)
attribute [local go_sem ↓] Go.wp_at_zero Go.wp_at_succ ld_k lv_k st_k eq_k ne_k bd_k ld_b lv_b st_b eq_b ne_b bd_25 ld_r lv_r st_rk eq_rk ne_rk bd_r ld_p lv_p st_px bd_p Nm.ld_a Nm.ld_n Nm.st_a Nm.st_n Nm.eq_a Nm.eq_n Nm.ne_a Nm.ne_n Nm.lv_a Nm.lv_n ld_a ld_n st_a st_n eq_a eq_n ne_a ne_n lv_a lv_n
attribute [local go_sem] run_ldk run_lvk run_stk run_eqk run_nek run_bdk_z run_ldb run_lvb run_stb run_eqb run_neb run_ldr run_lvr run_strk run_eqrk run_nerk run_bdr_z run_ldp run_lvp run_stpx Nm.run_ld_a Nm.run_ld_n Nm.run_st_n Nm.run_eq_a Nm.run_eq_n Nm.run_ne_a Nm.run_ne_n Nm.run_lv_a Nm.run_lv_n Nm.rd_new Nm.rd_old Nm.rd_drew Nm.rd_drewN run_ld_a run_ld_n run_sw_a run_sw_n run_eq_a run_eq_n run_ne_a run_ne_n run_lv_a run_lv_n st_z ne_z eq_z rd_new rd_old rd_drew rd_drewN Shp.rd_new Shp.rd_old Shp.rd_drew Shp.rd_drewN Shp.rd_set Shp.tn_new Shp.tn_old Shp.tn_drew Shp.tn_drewN setRow_alloc run_stn3 run_stt15 Shp.rd_ext_ cell_ext rd_ext

set_option maxHeartbeats 4000000 in
theorem has_in (q : D.Px) (x : D.Ky) (w : World) (h0 : 0 ≤ q.d) (h5 : q.d ≤ 5) : Calls Tryz.prog 108 #[.agg (pS.v q), .agg (kS.v x)] w fun e w' => e = .returned (.bool (kS.sm (D.upto q.x q.d) (D.upto x q.d))) ∧ Below w.heap.size w w' := by
 obtain ⟨W0, hW0⟩ : ∃ W, (w.alloc (.cells (pS.v q) 41)).alloc (.cells (kS.v x) 39) = W := ⟨_, rfl⟩
 have p0 : pS.rd W0 ⟨w.heap.size, 0, none⟩ = some q := by rw [← hW0]; exact Shp.rd_on (Shp.rd_new (S := pS) w _ _ q rfl) (below_alloc_ _ _)
 have f1 : kS.rd W0 ⟨w.heap.size + 1, 0, none⟩ = some x := by rw [← hW0]; exact Shp.rd_new _ _ _ _ (by simp)
 have z0 : Below w.heap.size w W0 := by rw [← hW0]; exact (below_alloc_ _ _).alloc (by simp) _
 have s0 : w.heap.size < W0.heap.size := by rw [← hW0]; simp; omega
 have s1 : w.heap.size + 1 < W0.heap.size := by rw [← hW0]; simp
 obtain ⟨f0, c0⟩ := pf0 p0
 have g0 : decide (0 ≤ q.d) = true := decide_eq_true h0
 have g5 : decide (q.d ≤ 5) = true := decide_eq_true h5
 have C1 := Lib.hid (upto_any q.x q.d)
 have C2 := Lib.hid (upto_any x q.d)
 clear p0
 go_enter Tryz.func108, Tryz.ntmps108
 go_wp2_with fail
 try rw [hW0]
 clear hW0
 refine wp_region_ext (by kernel_rfl) (by kernel_rfl) ?_
 repeat (go_big_quiet_step (first | (go_at_call 137; with_reducible exact calls_ext (C1.out _)) | (go_at_call 137; with_reducible exact calls_ext (C2.out _))))
 refine wpQuiet_nil ?_
 intro w4 hw4
 have b4 := ext_to hw4
 clear hw4
 go_wp2
 go_ret
 exact ⟨by rfl, below_up z0 (Nat.le_of_lt s0) b4⟩

set_option maxHeartbeats 4000000 in
theorem has_neg (q : D.Px) (x : D.Ky) (w : World) (h0 : q.d < 0) : Calls Tryz.prog 108 #[.agg (pS.v q), .agg (kS.v x)] w fun e w' => e = .returned (.bool false) ∧ Below w.heap.size w w' := by
 obtain ⟨W0, hW0⟩ : ∃ W, (w.alloc (.cells (pS.v q) 41)).alloc (.cells (kS.v x) 39) = W := ⟨_, rfl⟩
 have p0 : pS.rd W0 ⟨w.heap.size, 0, none⟩ = some q := by rw [← hW0]; exact Shp.rd_on (Shp.rd_new (S := pS) w _ _ q rfl) (below_alloc_ _ _)
 have f1 : kS.rd W0 ⟨w.heap.size + 1, 0, none⟩ = some x := by rw [← hW0]; exact Shp.rd_new _ _ _ _ (by simp)
 have z0 : Below w.heap.size w W0 := by rw [← hW0]; exact (below_alloc_ _ _).alloc (by simp) _
 have s0 : w.heap.size < W0.heap.size := by rw [← hW0]; simp; omega
 have s1 : w.heap.size + 1 < W0.heap.size := by rw [← hW0]; simp
 obtain ⟨f0, c0⟩ := pf0 p0
 have g0 : decide (0 ≤ q.d) = false := decide_eq_false (by omega)
 clear p0
 go_enter Tryz.func108, Tryz.ntmps108
 go_wp2_with fail
 try rw [hW0]
 clear hW0
 refine wp_region_ext (by kernel_rfl) (by kernel_rfl) ?_
 repeat (go_big_quiet_step (fail))
 refine wpQuiet_nil ?_
 intro w4 hw4
 have b4 := ext_to hw4
 clear hw4
 go_wp2
 go_ret
 exact ⟨by rfl, below_up z0 (Nat.le_of_lt s0) b4⟩

set_option maxHeartbeats 4000000 in
theorem has_big (q : D.Px) (x : D.Ky) (w : World) (h0 : 0 ≤ q.d) (h5 : 5 < q.d) : Calls Tryz.prog 108 #[.agg (pS.v q), .agg (kS.v x)] w fun e w' => e = .returned (.bool false) ∧ Below w.heap.size w w' := by
 obtain ⟨W0, hW0⟩ : ∃ W, (w.alloc (.cells (pS.v q) 41)).alloc (.cells (kS.v x) 39) = W := ⟨_, rfl⟩
 have p0 : pS.rd W0 ⟨w.heap.size, 0, none⟩ = some q := by rw [← hW0]; exact Shp.rd_on (Shp.rd_new (S := pS) w _ _ q rfl) (below_alloc_ _ _)
 have f1 : kS.rd W0 ⟨w.heap.size + 1, 0, none⟩ = some x := by rw [← hW0]; exact Shp.rd_new _ _ _ _ (by simp)
 have z0 : Below w.heap.size w W0 := by rw [← hW0]; exact (below_alloc_ _ _).alloc (by simp) _
 have s0 : w.heap.size < W0.heap.size := by rw [← hW0]; simp; omega
 have s1 : w.heap.size + 1 < W0.heap.size := by rw [← hW0]; simp
 obtain ⟨f0, c0⟩ := pf0 p0
 have g0 : decide (0 ≤ q.d) = true := decide_eq_true h0
 have g5 : decide (q.d ≤ 5) = false := decide_eq_false (by omega)
 clear p0
 go_enter Tryz.func108, Tryz.ntmps108
 go_wp2_with fail
 try rw [hW0]
 clear hW0
 refine wp_region_ext (by kernel_rfl) (by kernel_rfl) ?_
 repeat (go_big_quiet_step (fail))
 refine wpQuiet_nil ?_
 intro w4 hw4
 have b4 := ext_to hw4
 clear hw4
 go_wp2
 go_ret
 exact ⟨by rfl, below_up z0 (Nat.le_of_lt s0) b4⟩

theorem has_any (q : D.Px) (x : D.Ky) (w : World) : Calls Tryz.prog 108 #[.agg (pS.v q), .agg (kS.v x)] w fun e w' => e = .returned (.bool (D.has q.x q.d x)) ∧ Below w.heap.size w w' := by
 unfold D.has
 by_cases h0 : 0 ≤ q.d
 ·by_cases h5 : q.d ≤ 5
  ·have := has_in q x w h0 h5
   rw [kS_sm] at this
   rw [show decide (0 ≤ q.d ∧ q.d ≤ 5 ∧ D.upto q.x q.d = D.upto x q.d) = decide (D.upto q.x q.d = D.upto x q.d) by simp [h0, h5]]
   exact this
  ·rw [decide_eq_false (by omega)]; exact has_big q x w h0 (by omega)
 ·rw [decide_eq_false (by omega)]; exact has_neg q x w (by omega)
end Go.Proofs.YtjlaffgbmcpldaaGreatDoor
namespace Go.Proofs.YtjlaffgbmcpldaaGreatDoor
open Go.RowKit Go.Shelf
attribute [local go_sem] Oper.semAt_some
attribute [local go_sem ↓] Go.wp_at_zero Go.wp_at_succ ld_k lv_k st_k eq_k ne_k bd_k ld_b lv_b st_b eq_b ne_b bd_25 ld_r lv_r st_rk eq_rk ne_rk bd_r ld_p lv_p st_px bd_p Nm.ld_a Nm.ld_n Nm.st_a Nm.st_n Nm.eq_a Nm.eq_n Nm.ne_a Nm.ne_n Nm.lv_a Nm.lv_n ld_a ld_n st_a st_n eq_a eq_n ne_a ne_n lv_a lv_n ld_l lv_l st_l bd_l bd_n bs_k
attribute [local go_sem] run_ldk run_lvk run_stk run_eqk run_nek run_bdk_z run_ldb run_lvb run_stb run_eqb run_neb run_ldr run_lvr run_strk run_eqrk run_nerk run_bdr_z run_ldp run_lvp run_stpx Nm.run_ld_a Nm.run_ld_n Nm.run_st_n Nm.run_eq_a Nm.run_eq_n Nm.run_ne_a Nm.run_ne_n Nm.run_lv_a Nm.run_lv_n Nm.rd_new Nm.rd_old Nm.rd_drew Nm.rd_drewN run_ld_a run_ld_n run_sw_a run_sw_n run_eq_a run_eq_n run_ne_a run_ne_n run_lv_a run_lv_n st_z ne_z eq_z rd_new rd_old rd_drew rd_drewN Shp.rd_new Shp.rd_old Shp.rd_drew Shp.rd_drewN Shp.rd_set Shp.tn_new Shp.tn_old Shp.tn_drew Shp.tn_drewN tn_new tn_old tn_drew tn_drewN rd_set setRow_alloc run_stn3 run_stt15 run_lvl run_ldl run_stl run_bdl run_bdn run_bdn0 run_bsk Shp.rd_extk cell_ext
def kyo (q : D.Px) (o : Option Tk) : List D.Ky := if D.has q.x q.d (fk (subo q.x (8 * D.ends q.d) o)) then (Cr.Tr.lso (subo q.x (8 * D.ends q.d) o)).map (·.1) else []
theorem sub_ok {w : World} {g : Nat} {o : Option Tk} (h : TR w g o) {k : D.Ky} {d : Nat} : ∀ u, subo k d o = some u → Nd w u ∧ u.wf ∧ ∀ q ∈ u.bl, q ∈ blo o := by
 intro u hu
 cases o with
 | none => cases hu
 | some t =>
  injection hu with hu
  subst hu
  exact ⟨(nd_sub (h.nd t rfl)).1, Cr.Tr.sub_wf k d (h.wf t rfl), (nd_sub (h.nd t rfl)).2⟩
theorem sub_len {w : World} {g : Nat} {o : Option Tk} (h : TR w g o) {k : D.Ky} {d : Nat} : (Cr.Tr.lso (subo k d o)).length ≤ 1000 := by
 cases o with
 | none => exact Nat.zero_le _
 | some t =>
  have : ∀ t : Tk, (t.sub k d).ls.length ≤ t.ls.length := by
   intro t
   induction t with
   | lf a x v => exact Nat.le_refl _
   | br a b l r ihl ihr =>
    simp only [Cr.Tr.sub]
    split
    ·split
     ·simp only [Cr.Tr.ls, List.length_append]; omega
     ·simp only [Cr.Tr.ls, List.length_append]; omega
    ·exact Nat.le_refl _
  exact Nat.le_trans (this t) h.sz
set_option maxHeartbeats 16000000 in
theorem keys_any (g : Nat) (o : Option Tk) (q : D.Px) (w : World) (hT : TR w g o) : Calls Tryz.prog 72 #[.pointer (some ⟨g, 0, none⟩), .agg (pS.v q)] w fun e w' => ∃ (A : Option Addr) (c : Nat), e = .returned (.slice A (kyo q o).length c) ∧ Ow 39 25 w.heap.size w' A (kyo q o).length c (kS.rcs (kyo q o)) ∧ Below w.heap.size w w' := by
 obtain ⟨w0, hw0⟩ : ∃ w0, w.alloc (.cells (pS.v q) 41) = w0 := ⟨_, rfl⟩
 have p0 : pS.rd w0 ⟨w.heap.size, 0, none⟩ = some q := by rw [← hw0]; exact Shp.rd_new _ _ _ _ rfl
 have b0 : Below w.heap.size w w0 := by rw [← hw0]; exact below_alloc_ _ _
 have hT0 := hT.on b0
 obtain ⟨x0, _⟩ := pf0 p0
 have CB := Lib.hid (fun w => pbytes_any q w)
 have hn := D.ends_le q.d
 have hlen : (q.x.l.take (D.ends q.d)).length = D.ends q.d := by rw [List.length_take, q.x.len]; omega
 have CP := Lib.hid (fun w (hT : TR w g o) => show Calls Tryz.prog 105 #[.pointer (some ⟨g, 0, none⟩), .agg (kS.v q.x), .int .i64 (8 * (D.ends q.d : Int))] w fun e w' => e = .returned (.pointer (some (plc q.x ⟨g, 0, none⟩ (pth q.x (8 * D.ends q.d) o)))) ∧ Below w.heap.size w w' from by
  have := place_any g o q.x (8 * D.ends q.d) (by omega) w hT
  rwa [show ((8 * D.ends q.d : Nat) : Int) = 8 * (D.ends q.d : Int) by omega] at this)
 have HC := Lib.hid (fun w (hT : TR w g o) => hT.sub_cell (k := q.x) (d := 8 * D.ends q.d) (by omega))
 have HSO := Lib.hid (fun w (hT : TR w g o) => sub_ok hT (k := q.x) (d := 8 * D.ends q.d))
 have hsl := sub_len hT (k := q.x) (d := 8 * D.ends q.d)
 obtain ⟨KY, hKY⟩ : ∃ KY, kyo q o = KY := ⟨_, rfl⟩
 rw [hKY]
 unfold kyo at hKY
 obtain ⟨so, hso⟩ : ∃ so, subo q.x (8 * D.ends q.d) o = so := ⟨_, rfl⟩
 rw [hso] at HC HSO hsl hKY
 obtain ⟨p, hp⟩ : ∃ p, plc q.x ⟨g, 0, none⟩ (pth q.x (8 * D.ends q.d) o) = p := ⟨_, rfl⟩
 rw [hp] at HC CP
 have CF := Lib.hid (fun w h => first_any so w h)
 have CH := Lib.hid (fun w => has_any q (fk so) w)
 have CW := Lib.hid (fun w => within_any (pt so) w)
 obtain ⟨hb, hhb⟩ : ∃ hb, D.has q.x q.d (fk so) = hb := ⟨_, rfl⟩
 rw [hhb] at CH hKY
 obtain ⟨n, hnn⟩ : ∃ n, D.ends q.d = n := ⟨_, rfl⟩
 rw [hnn] at hn hlen CP CB
 have HALL := Lib.hid hT.all_lt
 clear hhb hnn hso hp hT
 have HKY := Lib.hid hKY
 clear hKY
 have i0 : (0 : Int) ≤ (n : Int) := by omega
 have i1 : (n : Int) ≤ 25 := by omega
 have hw8 : IntKind.i64.wrap (8 * (n : Int)) = 8 * (n : Int) := by
  simp only [IntKind.wrap, IntKind.bits, IntKind.signed]
  simp
  omega
 refine (callsIn_wide (n := 10)).1 ?_
 refine callsIn_of_wp_marks Tryz.func72 rfl trivial ?_ rfl
 simp only [Tryz.ntmps72, List.size_toArray, List.length_cons, List.length_nil, Nat.reduceAdd, Nat.reduceSub, Array.replicate_succ, Array.replicate_zero, List.push_toArray, List.append_toArray, List.nil_append, List.cons_append]
 gi_wp2
 try rw [hw0]
 clear hw0
 refine wpIn_wide.2 ?_
 refine wp_region_noPanic ?_
 have sd : Below w0.heap.size w0 w0.drew := (Below.refl _ _).drew
 refine wp_region_held_drew (S := fun V => Below w0.heap.size w0 V) (by kernel_rfl) sd (fun _ => ?_)
 refine takeT 0 (some 10) ?vr0 ?hyr0 sd ?restr0
 case hyr0 => (intro o ho W hW; simp only [gT, gS, gZ, sI] at ho; subst ho; (try dsimp only at hW); go_simp; try rfl)
 try simp only [Act.put, iT, iZ, iS]
 refine takeT 1 (some 11) ?vr1 ?hyr1 sd ?restr1
 case hyr1 => (intro o ho W hW; simp only [gT, gS, gZ, sI] at ho; subst ho; (try dsimp only at hW); go_simp; try rfl)
 try simp only [Act.put, iT, iZ, iS]
 refine takeT 2 (some 12) ?vr2 ?hyr2 sd ?restr2
 case hyr2 => (intro o ho W hW; simp only [gT, gS, gZ, sI] at ho; subst ho; (try dsimp only at hW); have g1 := Shp.rd_on x0 hW; go_simp; try rfl)
 try simp only [Act.put, iT, iZ, iS]
 refine takeT 3 (some 13) ?vr3 ?hyr3 sd ?restr3
 case hyr3 => (intro o ho W hW; simp only [gT, gS, gZ, sI] at ho; subst ho; (try dsimp only at hW); have g2 := Shp.rd_on p0 hW; go_simp; try rfl)
 try simp only [Act.put, iT, iZ, iS]
 refine nextS 4 (by kernel_rfl) (by rfl) (fun o ho K hK => ?_)
 simp only [gT, gS, gZ, sI] at ho; subst ho
 go_simp
 (go_at_call 106; (with_reducible refine (CB.out _).mono ?_); rintro e w1 ⟨A, c, rfl, ho, b1⟩)
 rw [hlen]
 have s4 : Below w0.heap.size w0 w1 := below_up sd sd.size b1
 refine hK.out _ _ s4 (fun _ => ?_)
 clear hK K
 try simp only [Act.put, iT, iZ, iS]
 refine takeT 5 (some 15) ?vr5 ?hyr5 s4 ?restr5
 case hyr5 => (intro o ho W hW; simp only [gT, gS, gZ, sI] at ho; subst ho; (try dsimp only at hW); go_simp; try rfl)
 try simp only [Act.put, iT, iZ, iS]
 refine takeT 6 (some 16) (.int .i64 (8 * (n : Int))) ?hyr6 s4 ?restr6
 case hyr6 => (intro o ho W hW; simp only [gT, gS, gZ, sI] at ho; subst ho; (try dsimp only at hW); go_simp; try rfl)
 try simp only [Act.put, iT, iZ, iS]
 refine nextS 7 (by kernel_rfl) (by rfl) (fun o ho K hK => ?_)
 simp only [gT, gS, gZ, sI] at ho; subst ho
 go_simp
 (go_at_call 105; (with_reducible refine (CP.out _ (hT0.on s4)).mono ?_); rintro e w2 ⟨rfl, b2⟩)
 have s7 : Below w0.heap.size w0 w2 := below_up s4 s4.size b2
 have hT2 := hT0.on s7
 have hc2 := HC.out _ hT2
 refine hK.out _ _ s7 (fun _ => ?_)
 clear hK K
 try simp only [Act.put, iT, iZ, iS]
 refine takeT 8 (some 18) ?vr8 ?hyr8 s7 ?restr8
 case hyr8 => (intro o ho W hW; simp only [gT, gS, gZ, sI] at ho; subst ho; (try dsimp only at hW); go_simp; try rfl)
 try simp only [Act.put, iT, iZ, iS]
 refine nextS 9 (by kernel_rfl) (by rfl) (fun o ho K hK => ?_)
 simp only [gT, gS, gZ, sI] at ho; subst ho
 go_simp
 refine hK.out _ _ s7 (fun _ => ?_)
 clear hK K
 try simp only [Act.put, iT, iZ, iS]
 refine takeT 10 (some 5) ?vr10 ?hyr10 s7 ?restr10
 case hyr10 => (intro o ho W hW; simp only [gT, gS, gZ, sI] at ho; subst ho; (try dsimp only at hW); go_simp; try rfl)
 try simp only [Act.put, iT, iZ, iS]
 refine wpAnyH_done (by kernel_rfl) ?_ _
 refine NoPanic.normal ?_
 have p2 := Shp.rd_on p0 s7
 have z2 := below_up b0 b0.size s7
 clear x0 p0 s7 s4 sd
 gi_wp2
 refine ⟨trivial, ?_⟩
 refine (callsIn_wide.2 (CF.out _ (fun u e => ⟨(HSO.out _ hT2 u e).1, (HSO.out _ hT2 u e).2.1⟩))).mono ?_
 rintro e w3 ⟨rfl, b3⟩
 have p3 := Shp.rd_on p2 b3
 have z3 := below_up z2 z2.size b3
 have hT3 := hT2.on b3
 clear p2 hc2 b3 hT2 hT0
 obtain ⟨w4, hw4⟩ : ∃ w4, w3.alloc (.cells (kS.v (fk so)) 39) = w4 := ⟨_, rfl⟩
 have b4 : Below w3.heap.size w3 w4 := by rw [← hw4]; exact below_alloc_ _ _
 have p4 := Shp.rd_on p3 b4
 have k4 : kS.rd w4 ⟨w3.heap.size, 0, none⟩ = some (fk so) := by rw [← hw4]; exact Shp.rd_new _ _ _ _ rfl
 have z4 := below_up z3 z3.size b4
 have hT4 := hT3.on b4
 clear p3 b4 hT3
 gi_wp2
 try rw [hw4]
 clear hw4
 refine ⟨trivial, ?_⟩
 refine (callsIn_wide.2 (CH.out _)).mono ?_
 rintro e w5 ⟨rfl, b5⟩
 have z5 := below_up z4 z4.size b5
 have hT5 := hT4.on b5
 clear p4 k4 b5 hT4
 cases hb with
 | false =>
  gi_wp2
  have e : KY = [] := HKY.out.symm
  rw [e]
  exact ⟨_, results_tmp rfl _ _ _, none, 0, rfl, Ow.nil _ 25 z5.size, z5⟩
 | true =>
  have HKE := Lib.hid (show (Cr.Tr.lso so).map (·.1) = KY from HKY.out)
  obtain ⟨gb, hgb⟩ : ∃ gb, w5.heap.size = gb := ⟨_, rfl⟩
  obtain ⟨w6, hw6⟩ : ∃ w6, w5.alloc (.cells #[.slice none 0 0] 106) = w6 := ⟨_, rfl⟩
  have b6 : Below w5.heap.size w5 w6 := by rw [← hw6]; exact below_alloc_ _ _
  have B6 : Blk w6 gb 106 #[.slice none 0 0] := by rw [← hw6, ← hgb]; exact Blk.new _ _ _
  have z6 := below_up z5 z5.size b6
  have hgz : w.heap.size ≤ gb := by rw [← hgb]; exact z5.size
  have hT6 := hT5.on b6
  clear z5 hT5
  gi_wp2
  try rw [hw6]
  try rw [hgb]
  clear hw6
  refine ⟨trivial, ?_⟩
  refine (callsIn_wide.2 (CW.out _)).mono ?_
  rintro e w7 ⟨rfl, hw7⟩
  have b7 : Below w6.heap.size w6 w7 := by rw [hw7]; exact below_alloc_ _ _
  have hb7 : w7.cell? ⟨w6.heap.size, 0, none⟩ = some (.pointer (pt so)) := by rw [hw7]; exact (Blk.new w6 _ _).cell
  clear hw7
  have B7 := B6.on b7
  have z7 := below_up z6 z6.size b7
  have hT7 := hT6.on b7
  have l7 : gb < w7.heap.size := B7.lt
  have hX : ∀ u, so = some u → Nd w7 u ∧ u.wf ∧ ∀ q ∈ u.bl, q < w7.heap.size ∧ q ∉ [gb] := fun u e => by
   obtain ⟨h1, h2, h3⟩ := HSO.out _ hT7 u e
   refine ⟨h1, h2, fun q hq => ?_⟩
   have := HALL.out q (List.mem_cons_of_mem _ (h3 q hq))
   exact ⟨by omega, by simp; omega⟩
  clear hT6 hT7
  gi_wp2
  refine wpIn_rangeFunc_ownH rfl (by decide) (gf := 138) (lb := #[.pointer (some ⟨w6.heap.size, 0, none⟩)]) rfl trivial (enters_of Tryz.func138 (by kernel_rfl) rfl)
   (wi_stops 9 (by decide) w6.heap.size w7.heap.size [gb] so w7 hb7 hX) (fun h k => h.trans k) (fun W l o o' h1 h2 h3 _ => Kp.put W l o o' h1 h2 h3) (Below.refl _ _) (fun _ => rfl)
   (fun pre W => Ov w7.heap.size [gb] w7 W ∧ ∃ A c, Blk W gb 106 #[.slice A pre.length c] ∧ Ow 39 25 w7.heap.size W A pre.length c (kS.rcs (pre.map (·.1)))) (fun _ _ _ => False)
   (fun s W W' row hs hg hr => ⟨hs.1.grown (Nat.le_refl _) hg fun r e => .inl (hr r e).1, let ⟨A, c, h1, h2⟩ := hs.2; ⟨A, c, (blk_own (fun _ : List Lf => #[.slice A s.length c])) s W W' row h1 hg hr, ow_own h2 hg hr⟩⟩) (fun _ _ _ _ _ hs _ _ => hs) ⟨Ov.refl _ _ _, none, 0, B7, Ow.nil _ 25 (Nat.le_refl _)⟩
   (fun y a' W => ∃ gx, w7.heap.size ≤ gx ∧ Blk W gx 217 (lS.v y) ∧ a' = { tmps := #[.pointer (some ⟨g, 0, none⟩), .agg (pS.v q), undef, .pointer (some ⟨w.heap.size, 0, none⟩), .slice none 0 0, .pointer (pt so), .pointer (some ⟨w3.heap.size, 0, none⟩), .bool so.isSome, .pointer (some ⟨gb, 0, none⟩), .pointer (some ⟨gx, 0, none⟩), .pointer (some ⟨g, 0, none⟩), .pointer (some ⟨w.heap.size, 0, none⟩), .agg (kS.v q.x), .agg (pS.v q), .slice A n c, .int .i64 (n : Nat), .int .i64 (8 * (n : Int)), .pointer (some p), .pointer (some p), .pointer (pt so), .tuple #[.agg (kS.v (fk so)), .bool so.isSome], .pointer (pt so), .tuple #[.agg (kS.v (fk so)), .bool so.isSome], .agg (kS.v (fk so)), .bool so.isSome, .agg (pS.v q), .agg (kS.v (fk so)), .bool true, .bool false, .pointer (pt so), .func (.func 138) #[] #[.pointer (some ⟨w6.heap.size, 0, none⟩)], .agg (lS.v y), undef, undef, undef, undef, undef, undef], defers := [] })
   (fun y a' s W W' row ⟨gx, h1, h2, h3⟩ hg hr => ⟨gx, h1, (blk_own (fun _ : Unit => lS.v y)) s W W' row h2 hg hr, h3⟩) ?assign ?body ?done ?stop
  case assign =>
   rintro l pre y W K ⟨hO, A, c, h1, h2⟩ hK
   have hsz := hO.size
   gi_wp2
   exact hK _ _ ((KeepsOthers.alloc _ _).from _) (Kp.below (below_alloc_ _ _) hsz) ⟨hO.on (Nat.le_refl _) (below_alloc_ _ _), A, c, h1.alloc _, h2.alloc _⟩ ⟨W.heap.size, hsz, Blk.new _ _ _, rfl⟩
  case body =>
   rintro l pre y a' W hl ⟨r, hr⟩ ⟨hO, A, c, hBs, hOw⟩ ⟨gx, hgx, hBy, rfl⟩ hlt
   have hc := hBs.cell
   have hf := hBs.free
   have fy := (lf_of (Shp.rd_blk (S := lS) hBy)).1
   gi_wp2_with (gi_at_builtin; refine gappIn _ key_under key_info (by kernel_rfl) (by decide) (by decide) rfl (.tmp 32) (.tmp 35) rfl rfl (hOw.alloc (.cells (kS.v y.1) 39)) rfl (rw_shp kS W y.1 39 _ rfl) (kS.one y.1) (by omega) ?_; intro A1 c1 w1 ho1 hg1; have hb1 := (hBs.alloc (.cells (kS.v y.1) 39)).grown hg1 (fun e => by have := (hOw.lt _ e.symm).1; omega); have hc1 := hb1.cell; have hf1 := hb1.free)
   have hsz := hO.size
   have hz1 := hg1.size
   have hlp : (pre ++ [y]).length = pre.length + 1 := by simp
   have hoc := ow_cells (hOw.alloc (.cells (kS.v y.1) 39))
   have hO1 : Ov w7.heap.size [gb] w7 w1 := (hO.on (Nat.le_refl _) (below_alloc_ W _)).grown (Nat.le_refl _) hg1 (fun r e => .inl (hOw.lt r e).1)
   refine ⟨?_, ?_, hO1.set (by simp) _, A1, c1, ?_, ?_⟩
   ·exact (((KeepsOthers.alloc W _).trans (KeepsOthers.of_grownBy hg1 fun j o e h => (hoc j o e h).1)).trans (KeepsOthers.setCell _ _ _)).from _
   ·exact ((Kp.below (below_alloc_ W (.cells (kS.v y.1) 39)) hsz).trans ⟨hz1, fun g h1 h2 => hg1.block g (by simp; omega) (fun e => by have := (hOw.lt g e.symm).1; omega), fun g cs h => hg1.block g (Array.getElem?_eq_some_iff.1 h).1 fun e => ow_type (hOw.alloc (.cells (kS.v y.1) 39)) (by decide) g cs h e.symm⟩).trans (Kp.set _ _ _ _ (by simp) hb1 (by decide))
   ·rw [hlp]; exact hb1.set_ _
   ·rw [hlp, List.map_append, List.map_cons, List.map_nil, rcs_app]
    exact ho1.kept (by simp [World.setCell]) (fun g e => Below.heap_setCell _ _ _ g (by have := (ho1.lt g e).1; show g ≠ gb; omega))
  case done =>
   rintro D0 ys W hD rfl ⟨hO, A, c, hB2, hOw⟩ hK
   have hc := hB2.cell
   have hfin := z7.trans ((hO.put hD (.deferred none)).below (b := w.heap.size) z7.size (fun x hx => by simp at hx; omega))
   have hOF := ow_base (hOw.kept (w' := W.putObj D0 (.deferred none)) (by simp [World.putObj]) (fun g e => World.putObj_heap_other (fun e' => by subst e'; have := (ow_cells hOw g _ e hK).1; cases this))) z7.size
   have hle : (Cr.Tr.lso so).length = KY.length := by rw [← HKE.out]; simp
   have HOF := Lib.hid hOF
   have HFIN := Lib.hid hfin
   have HLE := Lib.hid hle
   clear hOF hfin hle hOw hO hB2
   gi_wp2
   refine ⟨by simp, .inl ⟨_, _, rfl, run_takeDeferred hK, ?_⟩⟩
   refine ⟨_, results_tmp rfl _ _ _, A, c, by rw [← HLE.out]; rfl, ?_, HFIN.out⟩
   have := HOF.out
   rw [HKE.out, HLE.out] at this
   exact this
  case stop =>
   rintro D0 c pre W _ _ h _
   exact h.elim
end Go.Proofs.YtjlaffgbmcpldaaGreatDoor
namespace Go.Proofs.YtjlaffgbmcpldaaGreatDoor
theorem kyo_eq {w : World} {g : Nat} {o : Option Tk} (h : TR w g o) (q : D.Px) : kyo q o = ((Cr.Tr.lso o).filter (fun e => D.has q.x q.d e.1)).map (·.1) := by
 unfold kyo
 by_cases hd : 0 ≤ q.d ∧ q.d ≤ 5
 ·have hp : ∀ x, D.has q.x q.d x = decide (8 * D.ends q.d ≤ Cr.par x q.x) := fun x => D.has_par hd.1 hd.2
  have hn := D.ends_le q.d
  cases o with
  | none => simp [Cr.Tr.lso, subo]
  | some t =>
   have hw := h.wf t rfl
   rw [hp]
   have e : fk (subo q.x (8 * D.ends q.d) (some t)) = (t.sub q.x (8 * D.ends q.d)).hd.1 := rfl
   rw [e]
   have hf : (Cr.Tr.lso (some t)).filter (fun e => D.has q.x q.d e.1) = t.ls.filter (fun e => decide (8 * D.ends q.d ≤ Cr.par e.1 q.x)) := by
    show t.ls.filter _ = _
    congr 1
    funext e
    exact hp e.1
   rw [hf]
   by_cases c : 8 * D.ends q.d ≤ Cr.par (t.sub q.x (8 * D.ends q.d)).hd.1 q.x
   ·rw [decide_eq_true c, if_pos rfl, Cr.Tr.pre_yes (by omega) hw c]; rfl
   ·rw [decide_eq_false c, if_neg (by decide), Cr.Tr.pre_no (by omega) hw c]; rfl
 ·have hp : ∀ x, D.has q.x q.d x = false := fun x => by
   unfold D.has
   simp only [Bool.and_eq_false_iff, decide_eq_false_iff_not]
   omega
  simp [hp]
end Go.Proofs.YtjlaffgbmcpldaaGreatDoor
