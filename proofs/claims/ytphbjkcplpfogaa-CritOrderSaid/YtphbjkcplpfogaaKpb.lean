/-
  A prefix's bytes.
-/
import Derived.Test.YtphbjkcplpfogaaKbt
import Derived.Test.YtphbjkcplpfogaaKsh
set_option linter.unusedVariables false
set_option linter.unusedSimpArgs false
set_option maxRecDepth 100000
namespace Go.Proofs.Ytphbjkcplpfogaa
open Go.RowKit
attribute [local go_sem ↓] Go.wp_at_zero Go.wp_at_succ ld_k lv_k st_k eq_k ne_k bd_k ld_b lv_b st_b eq_b ne_b bd_25 ld_r lv_r st_rk eq_rk ne_rk bd_r ld_p lv_p st_px bd_p Nm.ld_a Nm.ld_n Nm.st_a Nm.st_n Nm.eq_a Nm.eq_n Nm.ne_a Nm.ne_n Nm.lv_a Nm.lv_n ld_a ld_n st_a st_n eq_a eq_n ne_a ne_n lv_a lv_n
attribute [local go_sem] run_ldk run_lvk run_stk run_eqk run_nek run_bdk_z run_ldb run_lvb run_stb run_eqb run_neb run_ldr run_lvr run_strk run_eqrk run_nerk run_bdr_z run_ldp run_lvp run_stpx Nm.run_ld_a Nm.run_ld_n Nm.run_st_n Nm.run_eq_a Nm.run_eq_n Nm.run_ne_a Nm.run_ne_n Nm.run_lv_a Nm.run_lv_n Nm.rd_new Nm.rd_old Nm.rd_drew Nm.rd_drewN run_ld_a run_ld_n run_sw_a run_sw_n run_eq_a run_eq_n run_ne_a run_ne_n run_lv_a run_lv_n st_z ne_z eq_z rd_new rd_old rd_drew rd_drewN Shp.rd_new Shp.rd_old Shp.rd_drew Shp.rd_drewN Shp.rd_set Shp.tn_new Shp.tn_old Shp.tn_drew Shp.tn_drewN tn_new tn_old tn_drew tn_drewN rd_set setRow_alloc run_stn3 run_stt15

theorem from_belowk {w w1 w2 : World} {o : Obj} {row : Option Nat} (h : Below w.heap.size w w1) (hg : (w1.alloc o).grownBy w2 row) (hr : ∀ k, row = some k → w.heap.size ≤ k) : Below w.heap.size w w2 :=
  (h.alloc h.size o).grown hg (by simp; have := h.size; omega) hr

theorem own_low {b base : Nat} {w : World} {A : Option Addr} {n c : Nat} {l : List Nat} (h : Own base w A n c l) (hb : b ≤ base) : Own b w A n c l := by
  refine ⟨⟨h.row.1, ?_⟩, Nat.le_trans hb h.base⟩
  rcases h.row.2 with hz | ⟨g, cap, cur, e, hg, r⟩
  · exact .inl hz
  · exact .inr ⟨g, cap, cur, e, Nat.le_trans hb hg, r⟩

set_option maxHeartbeats 400000 in
theorem kclone_any (A : Option Addr) (n c : Nat) (l : List Nat) (w : World) (ha : Row w A n (bys l)) (hn : n ≤ 1000000) :
    Calls Try.prog 53 #[.slice A n c] w (Made w l) := by
  cases A with
  | none =>
    have h0 : n = 0 := by
      rcases Nat.eq_zero_or_pos n with h0 | h0
      · exact h0
      · obtain ⟨ad, h, _⟩ := ha.tow h0
        cases h
    subst h0
    have hl : l = [] := List.eq_nil_of_length_eq_zero (by have := ha.len; rwa [bys_len] at this)
    subst hl
    have he : ∀ W : World, (binOp .eql 97 (.slice none 0 c) (.slice none 0 0)).run Try.prog W = .ok (.bool true) W := fun _ => rfl
    go_enter Try.func53, Try.ntmps53
    go_wp2
    go_ret
    exact made (Own.nil (Nat.le_refl _)) (Below.refl _ _)
  | some ad =>
    have HO : Own w.heap.size (w.alloc (.cells #[] 5)) (some ⟨w.heap.size, 0, none⟩) 0 0 [] := ⟨World.ownsRow_lit w #[] 0 (Nat.le_refl _) (by simp [maxLen]) rfl, by simp⟩
    have he : ∀ W : World, (binOp .eql 97 (.slice (some ad) n c) (.slice none 0 0)).run Try.prog W = .ok (.bool false) W := fun _ => rfl
    go_enter Try.func53, Try.ntmps53
    go_wp2_with (at_builtin; refine app _ rfl (.tmp 5) (.tmp 6) rfl rfl HO rfl (ha.alloc _) (by omega) ?_; intro A1 c1 w1 ho1 hg1 hat1; rw [Nat.zero_add, List.nil_append] at ho1)
    go_ret
    exact made_of ho1 rfl (from_belowk (Below.refl _ _) hg1 (fun k hk => by simp [Value.ownBlock] at hk; omega))

set_option maxHeartbeats 4000000 in
theorem pbytes_any (q : D.Px) (w : World) : Calls Try.prog 38 #[.agg (pS.v q)] w (Made w (q.x.l.take (D.ends q.d))) := by
  have f0 := Shp.rd_new (S := pS) w _ 52 q rfl
  obtain ⟨g0, c0⟩ := pf0 f0
  have CB := Lib.hid (kbytes_any q.x)
  have CE := Lib.hid (end_any q.d)
  have hn := D.ends_le q.d
  obtain ⟨n, hnn⟩ : ∃ n, D.ends q.d = n := ⟨_, rfl⟩
  rw [hnn] at CE hn
  have i0 : (0 : Int) ≤ (n : Int) := by omega
  have i1 : (n : Int) ≤ 25 := by omega
  have hlen : (q.x.l.take n).length = n := by rw [List.length_take, q.x.len]; omega
  rw [hnn]
  clear hnn
  go_enter Try.func38, Try.ntmps38
  go_wp2_with (first
    | (go_at_call 43; (with_reducible refine (CB.out _).mono ?_); rintro e w1 ⟨rfl, b1⟩; have z1 := (below_up (below_alloc_ _ _) (by simp) b1).alloc (below_up (below_alloc_ _ _) (by simp) b1).size (.cells (kS.v q.x) 104); have c1 := cell_kept_ (b1.alloc b1.size (.cells (kS.v q.x) 104)) c0; have r1 := Shp.rd_new (S := kS) w1 _ 104 q.x rfl)
    | (go_at_call 54; (with_reducible refine (CE.out _).mono ?_); rintro e w2 ⟨rfl, rfl⟩)
    | (go_at_call 53; (with_reducible refine (kclone_any _ n 25 (q.x.l.take n) _ ?hrow (by omega)).mono ?_)))
  case hrow =>
    have hr : Row (w1.alloc (.cells (kS.v q.x) 104)) (some ⟨w1.heap.size, 0, none⟩) 25 (bys q.x.l) := ⟨by rw [bys_len, q.x.len], fun _ => ⟨_, rfl, Shp.rd_lt r1, Shp.at_of r1⟩⟩
    have := hr.take (k := n) hn
    rw [bys_take] at this
    exact this
  rintro e w3 ⟨A, c, rfl, ho, b3⟩
  rw [hlen] at ho
  rw [hlen]
  go_wp2
  go_ret
  refine ⟨A, c, by rw [hlen]; rfl, ?_, below_up z1 z1.size b3⟩
  rw [hlen]
  exact own_low ho z1.size
end Go.Proofs.Ytphbjkcplpfogaa
