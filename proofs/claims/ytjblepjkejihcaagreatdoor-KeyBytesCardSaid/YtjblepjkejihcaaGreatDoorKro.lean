/-
  The document's Of, of keys.
-/
import Derived.Test.YtjblepjkejihcaaGreatDoorGo
import Derived.Test.YtjblepjkejihcaaGreatDoorKrb
import Derived.Test.YtjblepjkejihcaaGreatDoorKrd
set_option linter.unusedVariables false
set_option linter.unusedSimpArgs false
set_option maxRecDepth 100000
namespace Go.Proofs.YtjblepjkejihcaaGreatDoor
open Go.RowKit
attribute [local go_sem ↓] Go.wp_at_zero Go.wp_at_succ ld_k lv_k st_k eq_k ne_k bd_k ld_b lv_b st_b eq_b ne_b bd_25 ld_r lv_r st_rk eq_rk ne_rk bd_r ld_p lv_p st_px bd_p Nm.ld_a Nm.ld_n Nm.st_a Nm.st_n Nm.eq_a Nm.eq_n Nm.ne_a Nm.ne_n Nm.lv_a Nm.lv_n ld_a ld_n st_a st_n eq_a eq_n ne_a ne_n lv_a lv_n
attribute [local go_sem] run_ldk run_lvk run_stk run_eqk run_nek run_bdk_z run_ldb run_lvb run_stb run_eqb run_neb run_ldr run_lvr run_strk run_eqrk run_nerk run_bdr_z run_ldp run_lvp run_stpx Nm.run_ld_a Nm.run_ld_n Nm.run_st_n Nm.run_eq_a Nm.run_eq_n Nm.run_ne_a Nm.run_ne_n Nm.run_lv_a Nm.run_lv_n Nm.rd_new Nm.rd_old Nm.rd_drew Nm.rd_drewN run_ld_a run_ld_n run_sw_a run_sw_n run_eq_a run_eq_n run_ne_a run_ne_n run_lv_a run_lv_n st_z ne_z eq_z rd_new rd_old rd_drew rd_drewN Shp.rd_new Shp.rd_old Shp.rd_drew Shp.rd_drewN Shp.rd_set Shp.tn_new Shp.tn_old Shp.tn_drew Shp.tn_drewN tn_new tn_old tn_drew tn_drewN rd_set setRow_alloc run_stn3 run_stt15

namespace D
theorem rkof_k {x : Rk} (h : ¬ (1 ≤ x.k ∧ x.k ≤ 6)) : rkof x = (zR, 16) := by
  have e : rerr x = 16 := by unfold rerr err; rw [if_pos (by omega)]
  unfold rkof; rw [e, if_neg (by decide)]
theorem rkof_r {x : Rk} (hk : 1 ≤ x.k ∧ x.k ≤ 6) (h : (x.p < 0 ∨ 3 < x.p) ∨ (0 < ats x.k ∧ (x.a < 0 ∨ (ats x.k : Int) ≤ x.a))) : rkof x = (zR, 5) := by
  have e : rerr x = 5 := by unfold rerr err; rw [if_neg (by omega), if_pos h]
  unfold rkof; rw [e, if_neg (by decide)]
theorem rkof_n {x : Rk} (hk : 1 ≤ x.k ∧ x.k ≤ 6) (h : ¬ ((x.p < 0 ∨ 3 < x.p) ∨ (0 < ats x.k ∧ (x.a < 0 ∨ (ats x.k : Int) ≤ x.a)))) (hm : nmd x.k = true) (hn : Nm.D.right x.n = false) : rkof x = (zR, 15) := by
  have e : rerr x = 15 := by unfold rerr err; rw [if_neg (by omega), if_neg h, if_pos ⟨hm, hn⟩]
  unfold rkof; rw [e, if_neg (by decide)]
theorem rkof_t {x : Rk} (hk : 1 ≤ x.k ∧ x.k ≤ 6) (h : ¬ ((x.p < 0 ∨ 3 < x.p) ∨ (0 < ats x.k ∧ (x.a < 0 ∨ (ats x.k : Int) ≤ x.a)))) (hn : nmd x.k = true → Nm.D.right x.n = true) (hm : tgd x.k = true) (ht : x.t = zero ∨ right x.t = false) : rkof x = (zR, 14) := by
  have e : rerr x = 14 := by
    unfold rerr err
    rw [if_neg (by omega), if_neg h, if_neg, if_pos ⟨hm, ht⟩]
    rintro ⟨h, h'⟩; rw [hn h] at h'; cases h'
  unfold rkof; rw [e, if_neg (by decide)]
theorem rkof_ok {x y : Rk} (hk : 1 ≤ x.k ∧ x.k ≤ 6) (h : ¬ ((x.p < 0 ∨ 3 < x.p) ∨ (0 < ats x.k ∧ (x.a < 0 ∨ (ats x.k : Int) ≤ x.a)))) (hn : nmd x.k = true → Nm.D.right x.n = true) (ht : tgd x.k = true → x.t ≠ zero ∧ right x.t = true) (hy : mkR x = y) : rkof x = (y, 0) := by
  have e : rerr x = 0 := err_of hk (by omega) (fun h0 => by have := fun h1 => h (.inr ⟨h0, h1⟩); omega) hn ht
  unfold rkof; rw [e, if_pos rfl, hy]
end D

theorem rkof_any (x : D.Rk) (w : World) : Calls Tryz.prog 10 #[.agg (rS.v x)] w fun e w' => e = .returned (.tuple #[.agg (rS.v (D.rkof x).1), .int .i64 (D.rkof x).2]) ∧ Below w.heap.size w w' := by
  by_cases hk : 1 ≤ x.k ∧ x.k ≤ 6
  · rcases (isk x.k).1 hk with h | h | h | h | h | h
    · have ea : D.ats x.k = 0 := by rw [h]; rfl
      have en : D.nmd x.k = false := by rw [h]; rfl
      have et : D.tgd x.k = false := by rw [h]; rfl
      by_cases p1 : x.p < 0
      · rw [D.rkof_r hk (.inl (.inl p1))]; exact rof_plo1 x h p1 w
      by_cases p2 : 3 < x.p
      · rw [D.rkof_r hk (.inl (.inr p2))]; exact rof_phi1 x h (by omega) p2 w
      have hb : ¬ ((x.p < 0 ∨ 3 < x.p) ∨ (0 < D.ats x.k ∧ (x.a < 0 ∨ (D.ats x.k : Int) ≤ x.a))) := by omega
      rw [D.rkof_ok (y := x.noA.noN.noT) hk hb (fun h' => by rw [en] at h'; cases h') (fun h' => by rw [et] at h'; cases h') (D.Rk.eq rfl rfl (by show (if 0 < D.ats x.k then x.a else 0) = _; rw [ea]; rfl) (by show (if D.nmd x.k then x.n else Nm.D.zero) = _; rw [en]; rfl) (by show (if D.tgd x.k then x.t else D.zero) = _; rw [et]; rfl))]; exact rof_ok1 x h (by omega) (by omega) w
    · have ea : D.ats x.k = 16 := by rw [h]; rfl
      have en : D.nmd x.k = false := by rw [h]; rfl
      have et : D.tgd x.k = false := by rw [h]; rfl
      by_cases p1 : x.p < 0
      · rw [D.rkof_r hk (.inl (.inl p1))]; exact rof_plo2 x h p1 w
      by_cases p2 : 3 < x.p
      · rw [D.rkof_r hk (.inl (.inr p2))]; exact rof_phi2 x h (by omega) p2 w
      by_cases a1 : x.a < 0
      · rw [D.rkof_r hk (.inr ⟨by omega, .inl a1⟩)]; exact rof_alo2 x h (by omega) (by omega) a1 w
      by_cases a2 : 16 ≤ x.a
      · rw [D.rkof_r hk (.inr ⟨by omega, .inr (by omega)⟩)]; exact rof_ahi2 x h (by omega) (by omega) (by omega) a2 w
      have hb : ¬ ((x.p < 0 ∨ 3 < x.p) ∨ (0 < D.ats x.k ∧ (x.a < 0 ∨ (D.ats x.k : Int) ≤ x.a))) := by omega
      rw [D.rkof_ok (y := x.noN.noT) hk hb (fun h' => by rw [en] at h'; cases h') (fun h' => by rw [et] at h'; cases h') (D.Rk.eq rfl rfl (by show (if 0 < D.ats x.k then x.a else 0) = _; rw [ea]; rfl) (by show (if D.nmd x.k then x.n else Nm.D.zero) = _; rw [en]; rfl) (by show (if D.tgd x.k then x.t else D.zero) = _; rw [et]; rfl))]; exact rof_ok2 x h (by omega) (by omega) (by omega) (by omega) w
    · have ea : D.ats x.k = 0 := by rw [h]; rfl
      have en : D.nmd x.k = false := by rw [h]; rfl
      have et : D.tgd x.k = true := by rw [h]; rfl
      by_cases p1 : x.p < 0
      · rw [D.rkof_r hk (.inl (.inl p1))]; exact rof_plo3 x h p1 w
      by_cases p2 : 3 < x.p
      · rw [D.rkof_r hk (.inl (.inr p2))]; exact rof_phi3 x h (by omega) p2 w
      have hb : ¬ ((x.p < 0 ∨ 3 < x.p) ∨ (0 < D.ats x.k ∧ (x.a < 0 ∨ (D.ats x.k : Int) ≤ x.a))) := by omega
      by_cases hz : x.t = D.zero
      · rw [D.rkof_t hk hb (fun h' => by rw [en] at h'; cases h') et (.inl hz)]; exact rof_z3 x h (by omega) (by omega) hz w
      cases hr : D.right x.t with
      | false => rw [D.rkof_t hk hb (fun h' => by rw [en] at h'; cases h') et (.inr hr)]; exact rof_w3 x h (by omega) (by omega) hr w
      | true => rw [D.rkof_ok (y := x.noA.noN) hk hb (fun h' => by rw [en] at h'; cases h') (fun _ => ⟨hz, hr⟩) (D.Rk.eq rfl rfl (by show (if 0 < D.ats x.k then x.a else 0) = _; rw [ea]; rfl) (by show (if D.nmd x.k then x.n else Nm.D.zero) = _; rw [en]; rfl) (by show (if D.tgd x.k then x.t else D.zero) = _; rw [et]; rfl))]; exact rof_ok3 x h (by omega) (by omega) hz hr w
    · have ea : D.ats x.k = 4 := by rw [h]; rfl
      have en : D.nmd x.k = false := by rw [h]; rfl
      have et : D.tgd x.k = false := by rw [h]; rfl
      by_cases p1 : x.p < 0
      · rw [D.rkof_r hk (.inl (.inl p1))]; exact rof_plo4 x h p1 w
      by_cases p2 : 3 < x.p
      · rw [D.rkof_r hk (.inl (.inr p2))]; exact rof_phi4 x h (by omega) p2 w
      by_cases a1 : x.a < 0
      · rw [D.rkof_r hk (.inr ⟨by omega, .inl a1⟩)]; exact rof_alo4 x h (by omega) (by omega) a1 w
      by_cases a2 : 4 ≤ x.a
      · rw [D.rkof_r hk (.inr ⟨by omega, .inr (by omega)⟩)]; exact rof_ahi4 x h (by omega) (by omega) (by omega) a2 w
      have hb : ¬ ((x.p < 0 ∨ 3 < x.p) ∨ (0 < D.ats x.k ∧ (x.a < 0 ∨ (D.ats x.k : Int) ≤ x.a))) := by omega
      rw [D.rkof_ok (y := x.noN.noT) hk hb (fun h' => by rw [en] at h'; cases h') (fun h' => by rw [et] at h'; cases h') (D.Rk.eq rfl rfl (by show (if 0 < D.ats x.k then x.a else 0) = _; rw [ea]; rfl) (by show (if D.nmd x.k then x.n else Nm.D.zero) = _; rw [en]; rfl) (by show (if D.tgd x.k then x.t else D.zero) = _; rw [et]; rfl))]; exact rof_ok4 x h (by omega) (by omega) (by omega) (by omega) w
    · have ea : D.ats x.k = 4 := by rw [h]; rfl
      have en : D.nmd x.k = true := by rw [h]; rfl
      have et : D.tgd x.k = false := by rw [h]; rfl
      by_cases p1 : x.p < 0
      · rw [D.rkof_r hk (.inl (.inl p1))]; exact rof_plo5 x h p1 w
      by_cases p2 : 3 < x.p
      · rw [D.rkof_r hk (.inl (.inr p2))]; exact rof_phi5 x h (by omega) p2 w
      by_cases a1 : x.a < 0
      · rw [D.rkof_r hk (.inr ⟨by omega, .inl a1⟩)]; exact rof_alo5 x h (by omega) (by omega) a1 w
      by_cases a2 : 4 ≤ x.a
      · rw [D.rkof_r hk (.inr ⟨by omega, .inr (by omega)⟩)]; exact rof_ahi5 x h (by omega) (by omega) (by omega) a2 w
      have hb : ¬ ((x.p < 0 ∨ 3 < x.p) ∨ (0 < D.ats x.k ∧ (x.a < 0 ∨ (D.ats x.k : Int) ≤ x.a))) := by omega
      cases hn : Nm.D.right x.n with
      | false => rw [D.rkof_n hk hb en hn]; exact rof_n5 x h (by omega) (by omega) (by omega) (by omega) hn w
      | true =>
        rw [D.rkof_ok (y := x.noT) hk hb (fun _ => hn) (fun h' => by rw [et] at h'; cases h') (D.Rk.eq rfl rfl (by show (if 0 < D.ats x.k then x.a else 0) = _; rw [ea]; rfl) (by show (if D.nmd x.k then x.n else Nm.D.zero) = _; rw [en]; rfl) (by show (if D.tgd x.k then x.t else D.zero) = _; rw [et]; rfl))]; exact rof_ok5 x h (by omega) (by omega) (by omega) (by omega) hn w
    · have ea : D.ats x.k = 4 := by rw [h]; rfl
      have en : D.nmd x.k = true := by rw [h]; rfl
      have et : D.tgd x.k = true := by rw [h]; rfl
      by_cases p1 : x.p < 0
      · rw [D.rkof_r hk (.inl (.inl p1))]; exact rof_plo6 x h p1 w
      by_cases p2 : 3 < x.p
      · rw [D.rkof_r hk (.inl (.inr p2))]; exact rof_phi6 x h (by omega) p2 w
      by_cases a1 : x.a < 0
      · rw [D.rkof_r hk (.inr ⟨by omega, .inl a1⟩)]; exact rof_alo6 x h (by omega) (by omega) a1 w
      by_cases a2 : 4 ≤ x.a
      · rw [D.rkof_r hk (.inr ⟨by omega, .inr (by omega)⟩)]; exact rof_ahi6 x h (by omega) (by omega) (by omega) a2 w
      have hb : ¬ ((x.p < 0 ∨ 3 < x.p) ∨ (0 < D.ats x.k ∧ (x.a < 0 ∨ (D.ats x.k : Int) ≤ x.a))) := by omega
      cases hn : Nm.D.right x.n with
      | false => rw [D.rkof_n hk hb en hn]; exact rof_n6 x h (by omega) (by omega) (by omega) (by omega) hn w
      | true =>
        by_cases hz : x.t = D.zero
        · rw [D.rkof_t hk hb (fun _ => hn) et (.inl hz)]; exact rof_z6 x h (by omega) (by omega) (by omega) (by omega) hn hz w
        cases hr : D.right x.t with
        | false => rw [D.rkof_t hk hb (fun _ => hn) et (.inr hr)]; exact rof_w6 x h (by omega) (by omega) (by omega) (by omega) hn hr w
        | true => rw [D.rkof_ok (y := x) hk hb (fun _ => hn) (fun _ => ⟨hz, hr⟩) (D.Rk.eq rfl rfl (by show (if 0 < D.ats x.k then x.a else 0) = _; rw [ea]; rfl) (by show (if D.nmd x.k then x.n else Nm.D.zero) = _; rw [en]; rfl) (by show (if D.tgd x.k then x.t else D.zero) = _; rw [et]; rfl))]; exact rof_ok6 x h (by omega) (by omega) (by omega) (by omega) hn hz hr w
  · rw [D.rkof_k hk]
    by_cases h1 : x.k < 1
    · exact rof_nlo x h1 w
    · exact rof_nhi x (by omega) (by omega) w
end Go.Proofs.YtjblepjkejihcaaGreatDoor
