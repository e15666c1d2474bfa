/-
  The law of tags' texts: its walk.
-/
import Derived.Test.YtpiajeonnhfanaaDoorGn
import Derived.Test.YtpiajeonnhfanaaDoorRpb
import Derived.Test.YtpiajeonnhfanaaDoorGm
set_option linter.unusedVariables false
set_option linter.unusedSimpArgs false
namespace Go.Proofs.YtpiajeonnhfanaaDoor
open Go.RowKit
attribute [local go_sem ↓] Go.wp_at_zero Go.wp_at_succ ld_a ld_n st_a st_n eq_a eq_n ne_a ne_n lv_a lv_n lp_3 lp_4
attribute [local go_sem] run_ld_a run_ld_n run_sw_a run_sw_n run_eq_a run_eq_n run_ne_a run_ne_n run_lv_a run_lv_n st_z ne_z eq_z rd_new rd_old rd_drew rd_drewN rd_set tn_new tn_old tn_drew tn_drewN setRow_alloc run_lp_3 run_lp_4 rd_ext cell_ext

theorem can_lt {p : D.Pt} (h : D.Can p) : (∀ b ∈ p.l, b < 256) ∧ (∀ b ∈ p.s, b < 256) ∧ (∀ b ∈ p.r, b < 256) :=
  ⟨D.ch_lt (D.can_ch h).1, D.ch_lt (D.can_ch h).2.1, D.ch_lt (D.can_ch h).2.2⟩
theorem can_sb {p : D.Pt} (h : D.Can p) : (⟨D.ns (D.sb p.l), D.ns (D.sb p.s), D.ns (D.sb p.r)⟩ : D.Pt) = p := by
  obtain ⟨h1, h2, h3⟩ := can_lt h
  rw [D.ns_sb h1, D.ns_sb h2, D.ns_sb h3]
theorem sb_size {l : List Nat} (h : l.length ≤ 4) : (D.sb l).size ≤ 100 := by rw [D.sb_len]; omega
theorem rtx_can {p : D.Pt} (h : D.Can p) (w : World) : Calls Tryd.prog 29 #[av p] w fun e w' => e = .returned (.string (D.sb (D.txt p))) ∧ Below w.heap.size w w' := by
  obtain ⟨h1, h2, h3⟩ := D.can_len h
  have := ref_text (D.sb p.l) (D.sb p.s) (D.sb p.r) w (sb_size (by omega)) (sb_size (by omega)) (sb_size (by omega))
  rw [can_sb h] at this
  exact this
theorem ext_size_le (u : ByteArray) (m : Nat) : (u.extract 0 m).size ≤ m := by simp [ByteArray.size_extract]; omega
end Go.Proofs.YtpiajeonnhfanaaDoor
