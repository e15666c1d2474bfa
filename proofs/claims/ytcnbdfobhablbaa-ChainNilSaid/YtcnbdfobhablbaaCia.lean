/-
  A nil chain: the law.
-/
import Derived.Test.YtcnbdfobhablbaaChp
set_option linter.unusedVariables false
set_option linter.unusedSimpArgs false
set_option maxRecDepth 100000
namespace Go.Proofs.Ytcnbdfobhablbaa
open Go.RowKit
attribute [local go_sem ↓] Go.wp_at_zero Go.wp_at_succ ld_v lv_v st_v ne_v bd_v bs_v ld_w lv_w st_w ne_w bd_w bs_w ld_r ld_d lv_r lv_d st_r st_d ne_r eq_r ne_d bd_r bd_d
attribute [local go_sem] run_ldv run_lvv run_stv run_nev run_bdv_z run_bdv_d run_bdv_r run_bsv1 run_bsv0 run_ldw run_lvw run_stw run_new run_bdw_3 run_bsw1 run_bsw0 run_ldr run_ldd run_lvr run_lvd run_str run_std run_ner run_eqr run_ned run_bdr0 run_bdd0 run_bdr1 run_bdd1 run_bdd9 Shp.rd_new Shp.rd_old Shp.rd_drew Shp.rd_drewN Shp.rd_set Shp.tn_new Shp.tn_old Shp.tn_drew Shp.tn_drewN setRow_alloc vv_0 vv_1 wv_0 wv_1 run_fdv0 run_fdv1 run_stf Shp.rd_extk cell_ext
set_option maxHeartbeats 8000000 in
theorem law_nil (v : D.Vn) (t : Nat) (w : World) : Calls Try.prog 7 #[.agg (vS.v v), .int .u64 (t : Nat)] w fun e w' => e = .returned (.bool true) ∧ Below w.heap.size w w' := by
  have q0 := Shp.rd_new (S := vS) w w.heap.size 32 v rfl
  have b0 := below_alloc_ w (.cells (vS.v v) 32)
  obtain ⟨w0, hw0⟩ : ∃ w0, w.alloc (.cells (vS.v v) 32) = w0 := ⟨_, rfl⟩
  rw [hw0] at q0 b0
  have HB0 := Lib.hid b0
  have CK := Lib.hid (fun W => known_any W)
  have CA : Hid (∀ W : World, Calls Try.prog 14 #[.pointer none, .int .u64 (t : Nat)] W fun e w' => e = .returned (.tuple #[.agg (rS.v D.zRc), .bool false]) ∧ Below W.heap.size W w') := fun W => at_any (Al.nil W) t
  have CNw := Lib.hid (fun W => newest_any (Al.nil W) (by simp))
  have CLv := Lib.hid (fun W => live_any (Al.nil W) (by simp))
  have CLe := Lib.hid (fun W => len_any (Al.nil W))
  have CLi := Lib.hid (fun W => list_any (Al.nil W))
  have e1 : D.nwt [] = 0 := rfl
  have e2 : D.liv [] = false := rfl
  rw [e1] at CNw
  rw [e2] at CLv
  clear b0 e1 e2
  go_enter Try.func7, Try.ntmps7
  go_wp2_with (first
    | (go_at_call 13; refine (put_nil _ _ _ _).mono ?_; rintro e w1 ⟨rfl, rfl⟩)
    | (go_at_call 14; refine (CA.out _).mono ?_; rintro e w2 ⟨rfl, b2⟩; have B2 : Hid (Below w.heap.size w w2) := (below_up (HB0.out.alloc HB0.out.size _) (HB0.out.alloc HB0.out.size _).size b2); clear b2)
    | (go_at_call 18; refine (CK.out _).mono ?_; rintro e w3 ⟨rfl, b3⟩; have B3 : Hid (Below w.heap.size w w3) := (below_up (B2.out.alloc B2.out.size _) (B2.out.alloc B2.out.size _).size b3); clear b3)
    | (go_at_call 20; refine (CNw.out _).mono ?_; rintro e w4 ⟨he, b4⟩; have he' : e = .returned (.int .u64 0) := he; subst he'; have B4 := Lib.hid (below_up B3.out B3.out.size b4); clear b4 he)
    | (go_at_call 21; refine (CLv.out _).mono ?_; rintro e w5 ⟨rfl, b5⟩; have B5 := Lib.hid (below_up B4.out B4.out.size b5); clear b5)
    | (go_at_call 9; refine (trim_nil _ _).mono ?_; rintro e w6 ⟨rfl, b6⟩; have B6 : Hid (Below w.heap.size w w6) := (below_up (B5.out.alloc B5.out.size _) (B5.out.alloc B5.out.size _).size b6); clear b6)
    | (go_at_call 23; refine (CLi.out _).mono ?_; rintro e w7 ⟨B, d, he, -, b7⟩; have he' : e = .returned (.slice B 0 d) := he; subst he'; have B7 := Lib.hid (below_up B6.out B6.out.size b7); clear b7 he)
    | (go_at_call 22; refine (CLe.out _).mono ?_; rintro e w8 ⟨he, b8⟩; have he' : e = .returned (.int .i64 0) := he; subst he'; have B8 := Lib.hid (below_up B7.out B7.out.size b8); clear b8 he))
  go_ret
  exact ⟨rfl, B8.out⟩
end Go.Proofs.Ytcnbdfobhablbaa
