/-
  The law's group of any tag.
-/
import Derived.Test.YtpiajeonnhfanaaDoorKlo
import Derived.Test.YtpiajeonnhfanaaDoorRof
import Derived.Test.YtpiajeonnhfanaaDoorPlh
set_option linter.unusedVariables false
set_option linter.unusedSimpArgs false
set_option maxRecDepth 100000
namespace Go.Proofs.YtpiajeonnhfanaaDoor
open Go.RowKit
theorem bdk_list (w : World) : ∀ l : List Value, l.length = 10 → (bdk #[(4, .agg l.toArray)]).run Tryd.prog w = .ok (.agg ((List.replicate 15 (Value.int .u8 0) ++ l).toArray)) w
  | [a0, a1, a2, a3, a4, a5, a6, a7, a8, a9], _ => by
    simp [bdk, Instr.build, go_sem]
attribute [local go_sem ↓] Go.wp_at_zero Go.wp_at_succ ld_k lv_k st_k eq_k ne_k bd_k ld_r lv_r st_rk eq_rk ne_rk bd_r Nm.ld_a Nm.ld_n Nm.st_a Nm.st_n Nm.eq_a Nm.eq_n Nm.ne_a Nm.ne_n Nm.lv_a Nm.lv_n ld_a ld_n st_a st_n eq_a eq_n ne_a ne_n lv_a lv_n
attribute [local go_sem] run_ldk run_lvk run_stk run_eqk run_nek run_bdk_z run_ldr run_lvr run_strk run_eqrk run_nerk run_bdr_z Nm.run_ld_a Nm.run_ld_n Nm.run_st_n Nm.run_eq_a Nm.run_eq_n Nm.run_ne_a Nm.run_ne_n Nm.run_lv_a Nm.run_lv_n Nm.rd_new Nm.rd_old Nm.rd_drew Nm.rd_drewN run_ld_a run_ld_n run_sw_a run_sw_n run_eq_a run_eq_n run_ne_a run_ne_n run_lv_a run_lv_n st_z ne_z eq_z rd_new rd_old rd_drew rd_drewN Shp.rd_new Shp.rd_old Shp.rd_drew Shp.rd_drewN Shp.rd_set Shp.tn_new Shp.tn_old Shp.tn_drew Shp.tn_drewN setRow_alloc run_stn3 run_stt15 bdr4
noncomputable def fd (v : Value) : Sem Value := Instr.field 52 v 4
theorem fd_4 (v : Value) : Instr.field 52 v 4 = fd v := rfl
theorem fd_list (w : World) : ∀ l : List Value, l.length = 25 → (fd (.agg l.toArray)).run Tryd.prog w = .ok (.agg (l.drop 15).toArray) w
  | [a0, a1, a2, a3, a4, a5, a6, a7, a8, a9, a10, a11, a12, a13, a14, a15, a16, a17, a18, a19, a20, a21, a22, a23, a24], _ => by
    show (fd (.agg #[a0, a1, a2, a3, a4, a5, a6, a7, a8, a9, a10, a11, a12, a13, a14, a15, a16, a17, a18, a19, a20, a21, a22, a23, a24])).run Tryd.prog w = .ok (.agg #[a15, a16, a17, a18, a19, a20, a21, a22, a23, a24]) w
    simp [fd, Instr.field, go_sem, asAgg]
theorem run_fd (w : World) (x : D.Rk) : (fd (.agg (rS.v x))).run Tryd.prog w = .ok (.agg (nc x.t)) w := by
  have h := fd_list w (rS.cs x) (rS.len x)
  have e : (rS.cs x).drop 15 = bys x.t.l := by
    show ((bys x.n.l ++ bys x.t.l).drop 12) = _
    have : 12 = (bys x.n.l).length := by rw [bys_len, x.n.len]
    rw [this, List.drop_left]
  rw [e] at h
  exact h
theorem run_bdk_t (w : World) (t : D.Tg) : (bdk #[(4, .agg (nc t))]).run Tryd.prog w = .ok (.agg (kS.v (D.mkK 0 0 0 Nm.D.zero t))) w := by
  have h := bdk_list w (bys t.l) (by rw [bys_len, t.len])
  rw [kv_mk _ _ (by decide) (by decide) (by decide)]
  exact h
attribute [local go_sem ↓] fd_4
attribute [local go_sem] run_fd run_bdk_t
set_option maxHeartbeats 4000000 in
theorem lgroup_any (x : D.Tg) (w : World) : Calls Tryd.prog 7 #[.agg (nc x)] w fun e w' => e = .returned (.int .i64 (D.gr x : Nat)) ∧ Below w.heap.size w w' := by
  have f0 := rd_new w w.heap.size 25 x rfl
  have b0 := below_alloc_ w (.cells (nc x) 25)
  have cK := Lib.hid (fun W => lawof_any (D.mkK 0 0 0 Nm.D.zero x) W)
  have cF := fun W => run_fd W (D.toR (D.mkK 0 0 0 Nm.D.zero x))
  rw [show (D.toR (D.mkK 0 0 0 Nm.D.zero x)).t = x from D.mkK_t] at cF
  have cO := fun W => rof_any x W
  rw [D.rof_eq] at cO
  cases hp : D.pt x with
  | none =>
    rw [D.gr_none hp]
    rw [hp] at cO
    have CO := Lib.hid (fun W => (show Calls Tryd.prog 18 #[.agg (nc x)] W fun e w' => e = .returned (.tuple #[.agg #[.string ⟨#[]⟩, .string ⟨#[]⟩, .string ⟨#[]⟩], .bool false]) ∧ Below W.heap.size W w' from cO W))
    clear cO hp
    go_enter Tryd.func7, Tryd.ntmps7
    go_wp2_with (first
      | (go_at_call 19; (with_reducible refine (cK.out _).mono ?_); rintro e w1 ⟨rfl, b1⟩)
      | (go_at_call 18; (with_reducible refine (CO.out _).mono ?_); rintro e w2 ⟨rfl, b2⟩))
    go_ret
    exact ⟨rfl, (below_on (below_on b0 (by simp) b1) (by have := b1.size; simp at this; omega) b2).alloc (by have := b1.size; have := b2.size; simp at *; omega) _⟩
  | some p =>
    rw [D.gr_some hp]
    rw [hp] at cO
    obtain ⟨hc, -⟩ := D.pt_some hp
    have cG := fun W => group_any (D.sb p.l) W
    rw [D.ns_sb (can_lt hc).1] at cG
    have CO := fun W => (show Calls Tryd.prog 18 #[.agg (nc x)] W fun e w' => e = .returned (.tuple #[.agg #[.string (D.sb p.l), .string (D.sb p.s), .string (D.sb p.r)], .bool true]) ∧ Below W.heap.size W w' from cO W)
    obtain ⟨a, ha⟩ : ∃ a, D.sb p.l = a := ⟨_, rfl⟩
    obtain ⟨b, hb⟩ : ∃ a, D.sb p.s = a := ⟨_, rfl⟩
    obtain ⟨c, hcc⟩ : ∃ a, D.sb p.r = a := ⟨_, rfl⟩
    obtain ⟨g, hg⟩ : ∃ g, D.grp p.l = g := ⟨_, rfl⟩
    rw [ha, hb, hcc] at CO
    rw [ha, hg] at cG
    rw [hg]
    have CQ := Lib.hid CO
    have CG := Lib.hid cG
    clear cO hp hc CO cG ha hb hcc hg
    go_enter Tryd.func7, Tryd.ntmps7
    go_wp2_with (first
      | (go_at_call 19; (with_reducible refine (cK.out _).mono ?_); rintro e w1 ⟨rfl, b1⟩)
      | (go_at_call 18; (with_reducible refine (CQ.out _).mono ?_); rintro e w2 ⟨rfl, b2⟩)
      | (go_at_call 20; (with_reducible refine (CG.out _).mono ?_); rintro e w3 ⟨rfl, rfl⟩))
    go_ret
    exact ⟨rfl, (below_on (below_on b0 (by simp) b1) (by have := b1.size; simp at this; omega) b2).alloc (by have := b1.size; have := b2.size; simp at *; omega) _⟩
end Go.Proofs.YtpiajeonnhfanaaDoor
