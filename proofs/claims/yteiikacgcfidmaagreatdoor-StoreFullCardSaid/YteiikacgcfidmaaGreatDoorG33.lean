/-
  What a tree's keys of a prefix are; what puts and deletes leave, whatever their order. No program is spoken of.
  The first key behind one.
  Keys, Versions, NewestIn: what is read of a prefix's keys; Next.
-/
import Derived.Test.YteiikacgcfidmaaGreatDoorG32
import Derived.Test.YteiikacgcfidmaaGreatDoorG31
import Derived.Test.YteiikacgcfidmaaGreatDoorG28
set_option linter.unusedVariables false
set_option linter.unusedSimpArgs false
set_option maxRecDepth 100000
namespace Go.Proofs.YteiikacgcfidmaaGreatDoor
/-- A tree's keys of a prefix are those of its keys that are of it. -/
theorem kyo_eq {w : World} {g : Nat} {o : Option Tk} (h : TR w g o) (q : D.Px) : kyo q o = ((Cr.Tr.lso o).filter (fun e => D.has q.x q.d e.1)).map (·.1) := by
  unfold kyo
  by_cases hd : 0 ≤ q.d ∧ q.d ≤ 5
  · have hp : ∀ x, D.has q.x q.d x = decide (8 * D.ends q.d ≤ Cr.par x q.x) := fun x => D.has_par hd.1 hd.2
    have hn := D.ends_le q.d
    cases o with
    | none => simp [Cr.Tr.lso, subo]
    | some t =>
      have hw := h.wf t rfl
      rw [hp]
      have e : fk (subo q.x (8 * D.ends q.d) (some t)) = (t.sub q.x (8 * D.ends q.d)).hd.1 := rfl
      rw [e]
      have hf : (Cr.Tr.lso (some t)).filter (fun e => D.has q.x q.d e.1) = t.ls.filter (fun e => decide (8 * D.ends q.d ≤ Cr.par e.1 q.x)) := by
        show t.ls.filter _ = _
        congr 1
        funext e
        exact hp e.1
      rw [hf]
      by_cases c : 8 * D.ends q.d ≤ Cr.par (t.sub q.x (8 * D.ends q.d)).hd.1 q.x
      · rw [decide_eq_true c, if_pos rfl, Cr.Tr.pre_yes (by omega) hw c]; rfl
      · rw [decide_eq_false c, if_neg (by decide), Cr.Tr.pre_no (by omega) hw c]; rfl
  · have hp : ∀ x, D.has q.x q.d x = false := fun x => by
      unfold D.has
      simp only [Bool.and_eq_false_iff, decide_eq_false_iff_not]
      omega
    simp [hp]
end Go.Proofs.YteiikacgcfidmaaGreatDoor
set_option linter.unusedVariables false
set_option linter.unusedSimpArgs false
set_option maxRecDepth 100000
namespace Go.Proofs.YteiikacgcfidmaaGreatDoor
open Go.RowKit Go.Shelf
attribute [local go_sem] Oper.semAt_some
attribute [local go_sem ↓] Go.wp_at_zero Go.wp_at_succ ld_k lv_k st_k eq_k ne_k bd_k ld_b lv_b st_b eq_b ne_b bd_25 ld_r lv_r st_rk eq_rk ne_rk bd_r ld_p lv_p st_px bd_p Nm.ld_a Nm.ld_n Nm.st_a Nm.st_n Nm.eq_a Nm.eq_n Nm.ne_a Nm.ne_n Nm.lv_a Nm.lv_n ld_a ld_n st_a st_n eq_a eq_n ne_a ne_n lv_a lv_n ld_l lv_l st_l bd_l bd_n bs_k
attribute [local go_sem] run_ldk run_lvk run_stk run_eqk run_nek run_bdk_z run_ldb run_lvb run_stb run_eqb run_neb run_ldr run_lvr run_strk run_eqrk run_nerk run_bdr_z run_ldp run_lvp run_stpx Nm.run_ld_a Nm.run_ld_n Nm.run_st_n Nm.run_eq_a Nm.run_eq_n Nm.run_ne_a Nm.run_ne_n Nm.run_lv_a Nm.run_lv_n Nm.rd_new Nm.rd_old Nm.rd_drew Nm.rd_drewN run_ld_a run_ld_n run_sw_a run_sw_n run_eq_a run_eq_n run_ne_a run_ne_n run_lv_a run_lv_n st_z ne_z eq_z rd_new rd_old rd_drew rd_drewN Shp.rd_new Shp.rd_old Shp.rd_drew Shp.rd_drewN Shp.rd_set Shp.tn_new Shp.tn_old Shp.tn_drew Shp.tn_drewN tn_new tn_old tn_drew tn_drewN rd_set setRow_alloc run_stn3 run_stt15 run_lvl run_ldl run_stl run_bdl run_bdn run_bdn0 run_bsk Shp.rd_extk cell_ext
/-- What Next tells. -/
def nx (k : D.Ky) (l : List Lf) : D.Ky := (Cr.nxt k l).getD D.zK
end Go.Proofs.YteiikacgcfidmaaGreatDoor
set_option linter.unusedVariables false
set_option linter.unusedSimpArgs false
set_option maxRecDepth 100000
namespace Go.Proofs.YteiikacgcfidmaaGreatDoor
open Go.RowKit
attribute [local go_sem ↓] Go.wp_at_zero Go.wp_at_succ ld_k lv_k st_k eq_k ne_k bd_k ld_b lv_b st_b eq_b ne_b bd_25 ld_r lv_r st_rk eq_rk ne_rk bd_r ld_p lv_p st_px bd_p Nm.ld_a Nm.ld_n Nm.st_a Nm.st_n Nm.eq_a Nm.eq_n Nm.ne_a Nm.ne_n Nm.lv_a Nm.lv_n ld_a ld_n st_a st_n eq_a eq_n ne_a ne_n lv_a lv_n ld_l lv_l st_l bd_l bd_n bs_k ld_v lv_v st_v ne_v bd_v bs_v ld_rh ld_d lv_rh lv_d st_r st_d ne_rh eq_rh ne_d bd_rh bd_d ld_x lv_x st_x bd_x bs_x ld_e lv_e st_e bd_e bs_e ne_e
attribute [local go_sem] run_ldk run_lvk run_stk run_eqk run_nek run_bdk_z run_ldb run_lvb run_stb run_eqb run_neb run_ldr run_lvr run_strk run_eqrk run_nerk run_bdr_z run_ldp run_lvp run_stpx Nm.run_ld_a Nm.run_ld_n Nm.run_st_n Nm.run_eq_a Nm.run_eq_n Nm.run_ne_a Nm.run_ne_n Nm.run_lv_a Nm.run_lv_n Nm.rd_new Nm.rd_old Nm.rd_drew Nm.rd_drewN run_ld_a run_ld_n run_sw_a run_sw_n run_eq_a run_eq_n run_ne_a run_ne_n run_lv_a run_lv_n st_z ne_z eq_z rd_new rd_old rd_drew rd_drewN Shp.rd_new Shp.rd_old Shp.rd_drew Shp.rd_drewN Shp.rd_set Shp.tn_new Shp.tn_old Shp.tn_drew Shp.tn_drewN tn_new tn_old tn_drew tn_drewN rd_set setRow_alloc run_stn3 run_stt15 run_lvl run_ldl run_stl run_bdl run_bdn run_bdn0 run_bsk Shp.rd_extk cell_ext run_ldv run_lvv run_stv run_nev run_bdv_z run_bdv_d run_bdv_r run_bsv1 run_bsv0 run_ldrh run_ldd run_lvrh run_lvd run_str run_std run_nerh run_eqrh run_ned run_bdr0 run_bdd0 run_bdr1 run_bdd1 run_bdd9 run_ldx run_lvx run_stx run_lde run_lve run_bde run_bse1 run_bdv_3 Shp.rd_extk cell_ext
theorem SC.keys {base s g : Nat} {w : World} {o : Option Tk} {q : D.Ky → Qd} {lv : Int} {M : D.Sm} (h : SC base w s g o q lv M) (x : D.Px) : kyo x o = M.ks.filter fun k => D.has x.x x.d k := by
  rw [kyo_eq h.tc.tr, h.ls, List.filter_map, List.map_map]
  have e : (fun e : D.Ky × Vl => D.has x.x x.d e.1) ∘ (fun k => (k, some (⟨(q k).b, 0, none⟩ : Addr))) = fun k => D.has x.x x.d k := rfl
  rw [e]
  exact List.map_id _
def D.Sm.keys (M : D.Sm) (x : D.Px) : List D.Ky := M.ks.filter fun k => D.has x.x x.d k
theorem stk_next {α : Type} {l : List α} {i : Nat} {x : α} (h : l[i]? = some x) : l.take (i + 1) = l.take i ++ [x] := by
  rw [List.take_add_one, h]; rfl
end Go.Proofs.YteiikacgcfidmaaGreatDoor
