/-
  A tag's language, and the group of any tag: the program's language, the law's group.
-/
import Derived.Test.YtpiajeonnhfanaaDoorGn
import Derived.Test.YtpiajeonnhfanaaDoorPlm
set_option linter.unusedVariables false
set_option linter.unusedSimpArgs false
namespace Go.Proofs.YtpiajeonnhfanaaDoor
open Go.RowKit
attribute [local go_sem ↓] Go.wp_at_zero Go.wp_at_succ ld_a ld_n st_a st_n eq_a eq_n ne_a ne_n lv_a lv_n lp_3 lp_4
attribute [local go_sem] run_ld_a run_ld_n run_sw_a run_sw_n run_eq_a run_eq_n run_ne_a run_ne_n run_lv_a run_lv_n st_z ne_z eq_z rd_new rd_old rd_drew rd_drewN rd_set tn_new tn_old tn_drew tn_drewN setRow_alloc run_lp_3 run_lp_4

noncomputable def bld (ps : Array (Nat × Value)) : Sem Value := Instr.build 25 ps
theorem bl_d (ps : Array (Nat × Value)) : Instr.build 25 ps = bld ps := rfl
theorem run_bld0 (W : World) : (bld #[]).run Tryd.prog W = .ok (.agg #[.int .u8 0, .int .u8 0, .int .u8 0, .int .u8 0, .int .u8 0, .int .u8 0, .int .u8 0, .int .u8 0, .int .u8 0, .int .u8 0]) W := by simp [bld, Instr.build, go_sem]
theorem build_one (x y : D.Tg) (hy : y.l = D.pl x ++ [0, 0, 0, 0, 0, 0, 0]) (W : World) : (bld #[(0, .agg (pv (D.pl x)))]).run Tryd.prog W = .ok (.agg (nc y)) W := by
  have hx := x.len
  match hl : x.l, hx with
  | [a, b, c, d, e, f, g, h, i, j], _ =>
    have e1 : D.pl x = [a, b, c] := by rw [D.pl, hl]; rfl
    rw [e1] at hy ⊢
    rw [nc, hy]
    simp [bld, Instr.build, go_sem, pv, bys]
attribute [local go_sem ↓] bl_d
attribute [local go_sem] run_bld0
theorem bld_zero (W : World) : (bld #[]).run Tryd.prog W = .ok (.agg (nc D.zero)) W := run_bld0 W
set_option maxRecDepth 100000 in
set_option maxHeartbeats 2000000 in
theorem language_any (x : D.Tg) (w : World) : Calls Tryd.prog 22 #[.agg (nc x)] w fun e w' => e = .returned (.string (D.sb (D.lg x))) ∧ Below w.heap.size w w' := by
  have cR := Lib.hid (fun w => right_any x w)
  have f0 := rd_new w w.heap.size 25 x rfl
  have b0 := below_alloc_ w (.cells (nc x) 25)
  have t0 : tn (w.alloc (.cells (nc x) 25)) w.heap.size = true := tn_of (Blk.new w 25 (nc x)) (nc_size x)
  obtain ⟨W0, hW0⟩ : ∃ W, w.alloc (.cells (nc x) 25) = W := ⟨_, rfl⟩
  rw [hW0] at f0 b0 t0
  have s0 : w.heap.size < W0.heap.size := by rw [← hW0]; simp
  cases hpt : D.pt x with
  | none =>
    have hr : D.right x = false := by unfold D.right; rw [hpt]; rfl
    have hl : D.lg x = D.rootT := by unfold D.lg; rw [hpt]
    rw [hl]
    rw [hr] at cR
    have cT := fun W => text_any D.zero W
    rw [show D.tx D.zero = D.rootT by decide] at cT
    have CT := Lib.hid cT
    have hb := fun W => build_one D.zero D.zero rfl W
    clear cT hl hr hpt
    go_enter Tryd.func22, Tryd.ntmps22
    go_wp2_with (first
      | (go_at_call 34; (with_reducible refine (cR.out _).mono ?_); rintro e w1 ⟨rfl, b1⟩; have t1 := tn_on t0 b1; have b2 := below_on b0 (Nat.le_of_lt s0) b1; have b3 := below_setRow b2 (Nat.le_refl _) (nc D.zero); have f1 := rd_set w1 w.heap.size D.zero t1; obtain ⟨r1, -, -⟩ := rd_parts f1)
      | (go_at_call 35; (with_reducible refine (CT.out _).mono ?_); rintro e w2 ⟨rfl, b4⟩))
    go_ret
    exact ⟨rfl, below_on b3 b3.size b4⟩
  | some p =>
    have hr : D.right x = true := by unfold D.right; rw [hpt]; rfl
    obtain ⟨hc, hx⟩ := D.pt_some hpt
    have hl : D.lg x = D.txt ⟨p.l, [], []⟩ := by unfold D.lg; rw [hpt]
    rw [hl]
    rw [hr] at cR
    have cT := fun W => text_any (D.lt3 x) W
    rw [D.lt3_some hpt, D.tx_tb (D.can_l hc), ← D.lt3_some hpt] at cT
    obtain ⟨y, hy⟩ : ∃ y, D.lt3 x = y := ⟨_, rfl⟩
    obtain ⟨u, hu⟩ : ∃ u, D.txt ⟨p.l, [], []⟩ = u := ⟨_, rfl⟩
    have hb := fun W => build_one x (D.lt3 x) rfl W
    rw [hy] at hb cT
    rw [hu] at cT ⊢
    have CT := Lib.hid cT
    clear cT hl hr hpt hc hx hy hu
    go_enter Tryd.func22, Tryd.ntmps22
    go_wp2_with (first
      | (go_at_call 34; (with_reducible refine (cR.out _).mono ?_); rintro e w1 ⟨rfl, b1⟩; have f1 := rd_on f0 b1; have b2 := below_on b0 (Nat.le_of_lt s0) b1; obtain ⟨r1, -, -⟩ := rd_parts f1)
      | (go_at_call 35; (with_reducible refine (CT.out _).mono ?_); rintro e w2 ⟨rfl, b4⟩))
    go_ret
    exact ⟨rfl, below_on b2 b2.size b4⟩
end Go.Proofs.YtpiajeonnhfanaaDoor
