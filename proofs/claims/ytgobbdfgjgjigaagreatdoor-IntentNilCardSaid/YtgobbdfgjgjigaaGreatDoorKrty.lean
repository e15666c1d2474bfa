/-
  The program's Of, Right, upTo, end.
-/
import Derived.Test.YtgobbdfgjgjigaaGreatDoorKof
import Derived.Test.YtgobbdfgjgjigaaGreatDoorRgt
import Derived.Deep.DrawnRows
import Derived.Deep.Light
import Derived.Laws.CopyOwn
import Derived.Laws.ResultCell
import Derived.Sort.Grow
import Derived.Test.YtgobbdfgjgjigaaGreatDoorACut
import Derived.Test.YtgobbdfgjgjigaaGreatDoorAExt
import Derived.Test.YtgobbdfgjgjigaaGreatDoorKmi
import Derived.Test.YtgobbdfgjgjigaaGreatDoorKno
import Derived.Test.YtgobbdfgjgjigaaGreatDoorRefa
import Derived.Test.YtgobbdfgjgjigaaGreatDoorStep
set_option linter.unusedVariables false
set_option linter.unusedSimpArgs false
set_option maxRecDepth 100000
namespace Go.Proofs.YtgobbdfgjgjigaaGreatDoor
open Go.RowKit
attribute [local go_sem ↓] Go.wp_at_zero Go.wp_at_succ ld_k lv_k st_k eq_k ne_k bd_k ld_b lv_b st_b eq_b ne_b bd_25 ld_r lv_r st_rk eq_rk ne_rk bd_r Nm.ld_a Nm.ld_n Nm.st_a Nm.st_n Nm.eq_a Nm.eq_n Nm.ne_a Nm.ne_n Nm.lv_a Nm.lv_n ld_a ld_n st_a st_n eq_a eq_n ne_a ne_n lv_a lv_n
attribute [local go_sem] run_ldk run_lvk run_stk run_eqk run_nek run_bdk_z run_ldb run_lvb run_stb run_eqb run_neb run_ldr run_lvr run_strk run_eqrk run_nerk run_bdr_z Nm.run_ld_a Nm.run_ld_n Nm.run_st_n Nm.run_eq_a Nm.run_eq_n Nm.run_ne_a Nm.run_ne_n Nm.run_lv_a Nm.run_lv_n Nm.rd_new Nm.rd_old Nm.rd_drew Nm.rd_drewN run_ld_a run_ld_n run_sw_a run_sw_n run_eq_a run_eq_n run_ne_a run_ne_n run_lv_a run_lv_n st_z ne_z eq_z rd_new rd_old rd_drew rd_drewN Shp.rd_new Shp.rd_old Shp.rd_drew Shp.rd_drewN Shp.rd_set Shp.tn_new Shp.tn_old Shp.tn_drew Shp.tn_drewN setRow_alloc run_stn3 run_stt15 bdk1 bdk2 bdk3 bdk4


theorem keyof_any (k p a : Int) (n : Nm.D.Nm) (t : D.Tg) (w : World) :
    Calls Tryz.prog 45 #[.int .i64 k, .int .i64 p, .int .i64 a, .agg (Nm.nc n), .agg (nc t)] w fun e w' => e = .returned (.tuple #[.agg (kS.v (D.kof k p a n t).1), .int .i64 (D.kof k p a n t).2]) ∧ Below w.heap.size w w' := key_of_gen right_any k p a n t w
theorem D.kright_eq (x : D.Ky) : D.kright x = (decide ((D.kof x.k x.p x.a x.n x.t).2 = 0) && kS.sm (D.kof x.k x.p x.a x.n x.t).1 x) := by
  rw [kS_sm]
  unfold D.kright D.kof
  by_cases h : D.err x.k x.p x.a x.n x.t = 0
  · rw [if_pos h]; simp [h]
  · rw [if_neg h]; simp [h]
set_option maxHeartbeats 2000000 in
theorem keyright_any (x : D.Ky) (w : World) : Calls Tryz.prog 31 #[.agg (kS.v x)] w fun e w' => e = .returned (.bool (D.kright x)) ∧ Below w.heap.size w w' := by
  have f0 := Shp.rd_new (S := kS) w _ 30 x rfl
  obtain ⟨c0, c1, c2, c3, c4⟩ := kf0 f0
  have l0 : (x.k : Int) < 256 := by have := x.k_lt; omega
  have l1 : (x.p : Int) < 256 := by have := x.p_lt; omega
  have l2 : (x.a : Int) < 256 := by have := x.a_lt; omega
  have cO := keyof_any x.k x.p x.a x.n x.t
  have hr := D.kright_eq x
  obtain ⟨⟨y, e⟩, he⟩ : ∃ q, D.kof x.k x.p x.a x.n x.t = q := ⟨_, rfl⟩
  rw [he] at cO hr
  simp only at cO hr
  have CO := Lib.hid cO
  clear cO he
  by_cases h : e = 0
  · have HR := Lib.hid (show D.kright x = kS.sm y x by rw [hr]; simp [h])
    clear hr
    subst h
    go_enter Tryz.func31, Tryz.ntmps31
    go_wp2_with (go_at_call 45; (with_reducible refine (CO.out _).mono ?_); rintro e w1 ⟨rfl, b1⟩; have f1 := Shp.rd_on f0 b1; have s1 : w.heap.size < w1.heap.size := by have := b1.size; simp at this; omega)
    go_ret
    exact ⟨by rw [HR.out]; rfl, (below_up (below_alloc_ _ _) (by simp) b1).alloc (by omega) _⟩
  · have HR := Lib.hid (show D.kright x = false by rw [hr]; simp [h])
    clear hr
    go_enter Tryz.func31, Tryz.ntmps31
    go_wp2_with (go_at_call 45; (with_reducible refine (CO.out _).mono ?_); rintro e w1 ⟨rfl, b1⟩; have f1 := Shp.rd_on f0 b1; have s1 : w.heap.size < w1.heap.size := by have := b1.size; simp at this; omega)
    go_ret
    exact ⟨by rw [HR.out]; rfl, (below_up (below_alloc_ _ _) (by simp) b1).alloc (by omega) _⟩
end Go.Proofs.YtgobbdfgjgjigaaGreatDoor
