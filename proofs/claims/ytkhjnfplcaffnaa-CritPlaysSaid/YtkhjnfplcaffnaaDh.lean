/-
  A prefix's bytes.
  Has, of prefixes.
-/
import Derived.Test.YtkhjnfplcaffnaaKbt
import Derived.Test.YtkhjnfplcaffnaaKsh
import Derived.Test.YtkhjnfplcaffnaaKrt
import Derived.BigQuiet
set_option linter.unusedVariables false
set_option linter.unusedSimpArgs false
set_option maxRecDepth 100000
namespace Go.Proofs.Ytkhjnfplcaffnaa
open Go.RowKit
attribute [local go_sem ↓] Go.wp_at_zero Go.wp_at_succ ld_k lv_k st_k eq_k ne_k bd_k ld_b lv_b st_b eq_b ne_b bd_25 ld_r lv_r st_rk eq_rk ne_rk bd_r ld_p lv_p st_px bd_p Nm.ld_a Nm.ld_n Nm.st_a Nm.st_n Nm.eq_a Nm.eq_n Nm.ne_a Nm.ne_n Nm.lv_a Nm.lv_n ld_a ld_n st_a st_n eq_a eq_n ne_a ne_n lv_a lv_n
attribute [local go_sem] run_ldk run_lvk run_stk run_eqk run_nek run_bdk_z run_ldb run_lvb run_stb run_eqb run_neb run_ldr run_lvr run_strk run_eqrk run_nerk run_bdr_z run_ldp run_lvp run_stpx Nm.run_ld_a Nm.run_ld_n Nm.run_st_n Nm.run_eq_a Nm.run_eq_n Nm.run_ne_a Nm.run_ne_n Nm.run_lv_a Nm.run_lv_n Nm.rd_new Nm.rd_old Nm.rd_drew Nm.rd_drewN run_ld_a run_ld_n run_sw_a run_sw_n run_eq_a run_eq_n run_ne_a run_ne_n run_lv_a run_lv_n st_z ne_z eq_z rd_new rd_old rd_drew rd_drewN Shp.rd_new Shp.rd_old Shp.rd_drew Shp.rd_drewN Shp.rd_set Shp.tn_new Shp.tn_old Shp.tn_drew Shp.tn_drewN tn_new tn_old tn_drew tn_drewN rd_set setRow_alloc run_stn3 run_stt15

theorem from_belowk {w w1 w2 : World} {o : Obj} {row : Option Nat} (h : Below w.heap.size w w1) (hg : (w1.alloc o).grownBy w2 row) (hr : ∀ k, row = some k → w.heap.size ≤ k) : Below w.heap.size w w2 :=
  (h.alloc h.size o).grown hg (by simp; have := h.size; omega) hr

theorem own_low {b base : Nat} {w : World} {A : Option Addr} {n c : Nat} {l : List Nat} (h : Own base w A n c l) (hb : b ≤ base) : Own b w A n c l := by
  refine ⟨⟨h.row.1, ?_⟩, Nat.le_trans hb h.base⟩
  rcases h.row.2 with hz | ⟨g, cap, cur, e, hg, r⟩
  · exact .inl hz
  · exact .inr ⟨g, cap, cur, e, Nat.le_trans hb hg, r⟩

set_option maxHeartbeats 400000 in
theorem kclone_any (A : Option Addr) (n c : Nat) (l : List Nat) (w : World) (ha : Row w A n (bys l)) (hn : n ≤ 1000000) :
    Calls Try.prog 50 #[.slice A n c] w (Made w l) := by
  cases A with
  | none =>
    have h0 : n = 0 := by
      rcases Nat.eq_zero_or_pos n with h0 | h0
      · exact h0
      · obtain ⟨ad, h, _⟩ := ha.tow h0
        cases h
    subst h0
    have hl : l = [] := List.eq_nil_of_length_eq_zero (by have := ha.len; rwa [bys_len] at this)
    subst hl
    have he : ∀ W : World, (binOp .eql 94 (.slice none 0 c) (.slice none 0 0)).run Try.prog W = .ok (.bool true) W := fun _ => rfl
    go_enter Try.func50, Try.ntmps50
    go_wp2
    go_ret
    exact made (Own.nil (Nat.le_refl _)) (Below.refl _ _)
  | some ad =>
    have HO : Own w.heap.size (w.alloc (.cells #[] 5)) (some ⟨w.heap.size, 0, none⟩) 0 0 [] := ⟨World.ownsRow_lit w #[] 0 (Nat.le_refl _) (by simp [maxLen]) rfl, by simp⟩
    have he : ∀ W : World, (binOp .eql 94 (.slice (some ad) n c) (.slice none 0 0)).run Try.prog W = .ok (.bool false) W := fun _ => rfl
    go_enter Try.func50, Try.ntmps50
    go_wp2_with (at_builtin; refine app _ rfl (.tmp 5) (.tmp 6) rfl rfl HO rfl (ha.alloc _) (by omega) ?_; intro A1 c1 w1 ho1 hg1 hat1; rw [Nat.zero_add, List.nil_append] at ho1)
    go_ret
    exact made_of ho1 rfl (from_belowk (Below.refl _ _) hg1 (fun k hk => by simp [Value.ownBlock] at hk; omega))

set_option maxHeartbeats 4000000 in
theorem pbytes_any (q : D.Px) (w : World) : Calls Try.prog 36 #[.agg (pS.v q)] w (Made w (q.x.l.take (D.ends q.d))) := by
  have f0 := Shp.rd_new (S := pS) w _ 52 q rfl
  obtain ⟨g0, c0⟩ := pf0 f0
  have CB := Lib.hid (kbytes_any q.x)
  have CE := Lib.hid (end_any q.d)
  have hn := D.ends_le q.d
  obtain ⟨n, hnn⟩ : ∃ n, D.ends q.d = n := ⟨_, rfl⟩
  rw [hnn] at CE hn
  have i0 : (0 : Int) ≤ (n : Int) := by omega
  have i1 : (n : Int) ≤ 25 := by omega
  have hlen : (q.x.l.take n).length = n := by rw [List.length_take, q.x.len]; omega
  rw [hnn]
  clear hnn
  go_enter Try.func36, Try.ntmps36
  go_wp2_with (first
    | (go_at_call 41; (with_reducible refine (CB.out _).mono ?_); rintro e w1 ⟨rfl, b1⟩; have z1 := (below_up (below_alloc_ _ _) (by simp) b1).alloc (below_up (below_alloc_ _ _) (by simp) b1).size (.cells (kS.v q.x) 101); have c1 := cell_kept_ (b1.alloc b1.size (.cells (kS.v q.x) 101)) c0; have r1 := Shp.rd_new (S := kS) w1 _ 101 q.x rfl)
    | (go_at_call 51; (with_reducible refine (CE.out _).mono ?_); rintro e w2 ⟨rfl, rfl⟩)
    | (go_at_call 50; (with_reducible refine (kclone_any _ n 25 (q.x.l.take n) _ ?hrow (by omega)).mono ?_)))
  case hrow =>
    have hr : Row (w1.alloc (.cells (kS.v q.x) 101)) (some ⟨w1.heap.size, 0, none⟩) 25 (bys q.x.l) := ⟨by rw [bys_len, q.x.len], fun _ => ⟨_, rfl, Shp.rd_lt r1, Shp.at_of r1⟩⟩
    have := hr.take (k := n) hn
    rw [bys_take] at this
    exact this
  rintro e w3 ⟨A, c, rfl, ho, b3⟩
  rw [hlen] at ho
  rw [hlen]
  go_wp2
  go_ret
  refine ⟨A, c, by rw [hlen]; rfl, ?_, below_up z1 z1.size b3⟩
  rw [hlen]
  exact own_low ho z1.size
end Go.Proofs.Ytkhjnfplcaffnaa
set_option linter.unusedVariables false
set_option linter.unusedSimpArgs false
set_option maxRecDepth 100000
namespace Go.Proofs.Ytkhjnfplcaffnaa
open Go.RowKit
theorem Shp.rd_ext_ {α : Type} {S : Shp α} (w : World) (p : On) (a : Addr) (h : a.block < w.heap.size) : S.rd (ext w p) a = S.rd w a := Shp.rd_to (ext_heap w p h)
theorem Nm.rd_ext_ (w : World) (p : On) (a : Addr) (h : a.block < w.heap.size) : Nm.rd (ext w p) a = Nm.rd w a := Nm.rd_to (ext_heap w p h)
attribute [local go_sem ↓] Go.wp_at_zero Go.wp_at_succ ld_k lv_k st_k eq_k ne_k bd_k ld_b lv_b st_b eq_b ne_b bd_25 ld_r lv_r st_rk eq_rk ne_rk bd_r ld_p lv_p st_px bd_p Nm.ld_a Nm.ld_n Nm.st_a Nm.st_n Nm.eq_a Nm.eq_n Nm.ne_a Nm.ne_n Nm.lv_a Nm.lv_n ld_a ld_n st_a st_n eq_a eq_n ne_a ne_n lv_a lv_n
attribute [local go_sem] run_ldk run_lvk run_stk run_eqk run_nek run_bdk_z run_ldb run_lvb run_stb run_eqb run_neb run_ldr run_lvr run_strk run_eqrk run_nerk run_bdr_z run_ldp run_lvp run_stpx Nm.run_ld_a Nm.run_ld_n Nm.run_st_n Nm.run_eq_a Nm.run_eq_n Nm.run_ne_a Nm.run_ne_n Nm.run_lv_a Nm.run_lv_n Nm.rd_new Nm.rd_old Nm.rd_drew Nm.rd_drewN run_ld_a run_ld_n run_sw_a run_sw_n run_eq_a run_eq_n run_ne_a run_ne_n run_lv_a run_lv_n st_z ne_z eq_z rd_new rd_old rd_drew rd_drewN Shp.rd_new Shp.rd_old Shp.rd_drew Shp.rd_drewN Shp.rd_set Shp.tn_new Shp.tn_old Shp.tn_drew Shp.tn_drewN setRow_alloc run_stn3 run_stt15 Shp.rd_ext_ cell_ext rd_ext

set_option maxHeartbeats 4000000 in
theorem has_in (q : D.Px) (x : D.Ky) (w : World) (h0 : 0 ≤ q.d) (h5 : q.d ≤ 5) : Calls Try.prog 38 #[.agg (pS.v q), .agg (kS.v x)] w fun e w' => e = .returned (.bool (kS.sm (D.upto q.x q.d) (D.upto x q.d))) ∧ Below w.heap.size w w' := by
  obtain ⟨W0, hW0⟩ : ∃ W, (w.alloc (.cells (pS.v q) 52)).alloc (.cells (kS.v x) 30) = W := ⟨_, rfl⟩
  have p0 : pS.rd W0 ⟨w.heap.size, 0, none⟩ = some q := by rw [← hW0]; exact Shp.rd_on (Shp.rd_new (S := pS) w _ _ q rfl) (below_alloc_ _ _)
  have f1 : kS.rd W0 ⟨w.heap.size + 1, 0, none⟩ = some x := by rw [← hW0]; exact Shp.rd_new _ _ _ _ (by simp)
  have z0 : Below w.heap.size w W0 := by rw [← hW0]; exact (below_alloc_ _ _).alloc (by simp) _
  have s0 : w.heap.size < W0.heap.size := by rw [← hW0]; simp; omega
  have s1 : w.heap.size + 1 < W0.heap.size := by rw [← hW0]; simp
  obtain ⟨f0, c0⟩ := pf0 p0
  have g0 : decide (0 ≤ q.d) = true := decide_eq_true h0
  have g5 : decide (q.d ≤ 5) = true := decide_eq_true h5
  have C1 := Lib.hid (upto_any q.x q.d)
  have C2 := Lib.hid (upto_any x q.d)
  clear p0
  go_enter Try.func38, Try.ntmps38
  go_wp2_with fail
  try rw [hW0]
  clear hW0
  refine wp_region_ext (by kernel_rfl) (by kernel_rfl) ?_
  repeat (go_big_quiet_step (first | (go_at_call 52; with_reducible exact calls_ext (C1.out _)) | (go_at_call 52; with_reducible exact calls_ext (C2.out _))))
  refine wpQuiet_nil ?_
  intro w4 hw4
  have b4 := ext_to hw4
  clear hw4
  go_wp2
  go_ret
  exact ⟨by rfl, below_up z0 (Nat.le_of_lt s0) b4⟩

set_option maxHeartbeats 4000000 in
theorem has_neg (q : D.Px) (x : D.Ky) (w : World) (h0 : q.d < 0) : Calls Try.prog 38 #[.agg (pS.v q), .agg (kS.v x)] w fun e w' => e = .returned (.bool false) ∧ Below w.heap.size w w' := by
  obtain ⟨W0, hW0⟩ : ∃ W, (w.alloc (.cells (pS.v q) 52)).alloc (.cells (kS.v x) 30) = W := ⟨_, rfl⟩
  have p0 : pS.rd W0 ⟨w.heap.size, 0, none⟩ = some q := by rw [← hW0]; exact Shp.rd_on (Shp.rd_new (S := pS) w _ _ q rfl) (below_alloc_ _ _)
  have f1 : kS.rd W0 ⟨w.heap.size + 1, 0, none⟩ = some x := by rw [← hW0]; exact Shp.rd_new _ _ _ _ (by simp)
  have z0 : Below w.heap.size w W0 := by rw [← hW0]; exact (below_alloc_ _ _).alloc (by simp) _
  have s0 : w.heap.size < W0.heap.size := by rw [← hW0]; simp; omega
  have s1 : w.heap.size + 1 < W0.heap.size := by rw [← hW0]; simp
  obtain ⟨f0, c0⟩ := pf0 p0
  have g0 : decide (0 ≤ q.d) = false := decide_eq_false (by omega)
  clear p0
  go_enter Try.func38, Try.ntmps38
  go_wp2_with fail
  try rw [hW0]
  clear hW0
  refine wp_region_ext (by kernel_rfl) (by kernel_rfl) ?_
  repeat (go_big_quiet_step (fail))
  refine wpQuiet_nil ?_
  intro w4 hw4
  have b4 := ext_to hw4
  clear hw4
  go_wp2
  go_ret
  exact ⟨by rfl, below_up z0 (Nat.le_of_lt s0) b4⟩

set_option maxHeartbeats 4000000 in
theorem has_big (q : D.Px) (x : D.Ky) (w : World) (h0 : 0 ≤ q.d) (h5 : 5 < q.d) : Calls Try.prog 38 #[.agg (pS.v q), .agg (kS.v x)] w fun e w' => e = .returned (.bool false) ∧ Below w.heap.size w w' := by
  obtain ⟨W0, hW0⟩ : ∃ W, (w.alloc (.cells (pS.v q) 52)).alloc (.cells (kS.v x) 30) = W := ⟨_, rfl⟩
  have p0 : pS.rd W0 ⟨w.heap.size, 0, none⟩ = some q := by rw [← hW0]; exact Shp.rd_on (Shp.rd_new (S := pS) w _ _ q rfl) (below_alloc_ _ _)
  have f1 : kS.rd W0 ⟨w.heap.size + 1, 0, none⟩ = some x := by rw [← hW0]; exact Shp.rd_new _ _ _ _ (by simp)
  have z0 : Below w.heap.size w W0 := by rw [← hW0]; exact (below_alloc_ _ _).alloc (by simp) _
  have s0 : w.heap.size < W0.heap.size := by rw [← hW0]; simp; omega
  have s1 : w.heap.size + 1 < W0.heap.size := by rw [← hW0]; simp
  obtain ⟨f0, c0⟩ := pf0 p0
  have g0 : decide (0 ≤ q.d) = true := decide_eq_true h0
  have g5 : decide (q.d ≤ 5) = false := decide_eq_false (by omega)
  clear p0
  go_enter Try.func38, Try.ntmps38
  go_wp2_with fail
  try rw [hW0]
  clear hW0
  refine wp_region_ext (by kernel_rfl) (by kernel_rfl) ?_
  repeat (go_big_quiet_step (fail))
  refine wpQuiet_nil ?_
  intro w4 hw4
  have b4 := ext_to hw4
  clear hw4
  go_wp2
  go_ret
  exact ⟨by rfl, below_up z0 (Nat.le_of_lt s0) b4⟩

theorem has_any (q : D.Px) (x : D.Ky) (w : World) : Calls Try.prog 38 #[.agg (pS.v q), .agg (kS.v x)] w fun e w' => e = .returned (.bool (D.has q.x q.d x)) ∧ Below w.heap.size w w' := by
  unfold D.has
  by_cases h0 : 0 ≤ q.d
  · by_cases h5 : q.d ≤ 5
    · have := has_in q x w h0 h5
      rw [kS_sm] at this
      rw [show decide (0 ≤ q.d ∧ q.d ≤ 5 ∧ D.upto q.x q.d = D.upto x q.d) = decide (D.upto q.x q.d = D.upto x q.d) by simp [h0, h5]]
      exact this
    · rw [decide_eq_false (by omega)]; exact has_big q x w h0 (by omega)
  · rw [decide_eq_false (by omega)]; exact has_neg q x w (by omega)
end Go.Proofs.Ytkhjnfplcaffnaa
