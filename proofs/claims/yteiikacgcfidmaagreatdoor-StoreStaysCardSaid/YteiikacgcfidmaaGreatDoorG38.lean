/-
  The program's Right and Text.
  The document's Pad and Text.
  The program's Of, Right, upTo, end.
-/
import Derived.Test.YteiikacgcfidmaaGreatDoorG34
import Derived.Test.YteiikacgcfidmaaGreatDoorG36
import Derived.Test.YteiikacgcfidmaaGreatDoorG37
import Derived.Deep.Light
import Derived.Sort.Grow
import Derived.Test.YteiikacgcfidmaaGreatDoorG35
import Derived.Test.YteiikacgcfidmaaGreatDoorG09
import Derived.Test.YteiikacgcfidmaaGreatDoorG10
set_option linter.unusedVariables false
set_option linter.unusedSimpArgs false
namespace Go.Proofs.YteiikacgcfidmaaGreatDoor
open Go.RowKit
attribute [local go_sem ↓] Go.wp_at_zero Go.wp_at_succ ld_a ld_n st_a st_n eq_a eq_n ne_a ne_n lv_a lv_n lp_3 lp_4
attribute [local go_sem] run_ld_a run_ld_n run_sw_a run_sw_n run_eq_a run_eq_n run_ne_a run_ne_n run_lv_a run_lv_n st_z ne_z eq_z rd_new rd_old rd_drew rd_drewN rd_set tn_new tn_old tn_drew tn_drewN setRow_alloc run_lp_3 run_lp_4

theorem join_lt : ∀ L : List (List Nat), (∀ l ∈ L, ∀ b ∈ l, b < 256) → ∀ b ∈ D.join L, b < 256
  | [], _, b, hb => by cases hb
  | [x], h, b, hb => h x (by simp) b hb
  | x :: y :: r, h, b, hb => by
    rw [D.join] at hb
    rcases List.mem_append.1 hb with hb | hb
    · exact h x (by simp) b hb
    · rcases List.mem_cons.1 hb with rfl | hb
      · decide
      · exact join_lt (y :: r) (fun l hl => h l (List.mem_cons_of_mem _ hl)) b hb
theorem mem_opt {l a : List Nat} (h : l ∈ (if a = [] then [] else [a])) : l = a := by
  by_cases e : a = []
  · rw [if_pos e] at h; cases h
  · rw [if_neg e] at h; simpa using h
theorem spell_lt (x : D.Tg) : ∀ b ∈ D.spell x, b < 256 := by
  intro b hb
  unfold D.spell at hb
  split at hb
  · revert b; decide
  · refine join_lt _ (fun l hl => ?_) b hb
    have : l = D.hd0 (D.pl x) ∨ l = D.hd0 (D.ps x) ∨ l = D.hd0 (D.pr x) := by
      simp only [D.some3, D.hds, List.mem_append] at hl
      rcases hl with hl | hl | hl
      · exact .inl (mem_opt hl)
      · exact .inr (.inl (mem_opt hl))
      · exact .inr (.inr (mem_opt hl))
    rcases this with rfl | rfl | rfl
    · exact hd0_lt fun b hb => x.lt b (List.mem_of_mem_take hb)
    · exact hd0_lt fun b hb => x.lt b (List.mem_of_mem_drop (List.mem_of_mem_take hb))
    · exact hd0_lt fun b hb => x.lt b (List.mem_of_mem_drop hb)
theorem spell_len2 (x : D.Tg) : (D.spell x).length ≤ 20 := by
  unfold D.spell
  split
  · decide
  · rw [← accs_end]; exact spell_len x
theorem right_eq (x : D.Tg) : D.right x = match D.parse (D.spell x) with
    | none => false
    | some p => sm (D.tb p) x := by
  unfold D.right D.pt sm
  cases D.parse (D.spell x) with
  | none => rfl
  | some p => by_cases h : D.tb p = x <;> simp [h]
theorem parse_spell (x : D.Tg) (w : World) : Calls Tryz.prog 71 #[.string (D.sb (D.spell x))] w fun e w' => e = .returned (.tuple #[.agg (nc (D.tb ((D.parse (D.spell x)).getD D.rt))), .int .i64 (er (D.parse (D.spell x)))]) ∧ Below w.heap.size w w' := by
  have := tag_parse (D.sb (D.spell x)) w (by rw [D.sb_len]; have := spell_len2 x; omega)
  rwa [D.ns_sb (spell_lt x)] at this
set_option maxRecDepth 100000 in
set_option maxHeartbeats 1000000 in
theorem right_any (x : D.Tg) (w : World) : Calls Tryz.prog 112 #[.agg (nc x)] w fun e w' => e = .returned (.bool (D.right x)) ∧ Below w.heap.size w w' := by
  have cS := Lib.hid (fun w => spelled_any x w)
  have cP := fun w => parse_spell x w
  have hr := right_eq x
  have f0 := rd_new w _ 37 x rfl
  obtain ⟨p, hp⟩ : ∃ p, D.parse (D.spell x) = p := ⟨_, rfl⟩
  obtain ⟨l, hl⟩ : ∃ l, D.spell x = l := ⟨_, rfl⟩
  rw [hp] at cP hr
  rw [hl] at cP cS
  clear hp hl
  have HR := Lib.hid hr
  clear hr
  cases p with
  | none =>
    have cP' := Lib.hid (fun w => (show Calls Tryz.prog 71 #[.string (D.sb l)] w fun e w' => e = .returned (.tuple #[.agg (nc D.zero), .int .i64 14]) ∧ Below w.heap.size w w' from cP w))
    clear cP
    go_enter Tryz.func112, Tryz.ntmps112
    go_wp2_with (first
      | (go_at_call 115; (with_reducible refine (cS.out _).mono ?_); rintro e w1 ⟨rfl, b1⟩)
      | (go_at_call 71; (with_reducible refine (cP'.out _).mono ?_); rintro e w2 ⟨rfl, b2⟩))
    go_ret
    exact ⟨by rw [HR.out]; rfl, below_on (below_on (below_alloc_ _ _) (by simp) b1) (by have := b1.size; simp at this; omega) b2 |>.alloc (by have := b1.size; have := b2.size; simp at *; omega) _⟩
  | some q =>
    have cP' := Lib.hid (fun w => (show Calls Tryz.prog 71 #[.string (D.sb l)] w fun e w' => e = .returned (.tuple #[.agg (nc (D.tb q)), .int .i64 0]) ∧ Below w.heap.size w w' from cP w))
    clear cP
    go_enter Tryz.func112, Tryz.ntmps112
    go_wp2_with (first
      | (go_at_call 115; (with_reducible refine (cS.out _).mono ?_); rintro e w1 ⟨rfl, b1⟩; have f1 := rd_on f0 b1)
      | (go_at_call 71; (with_reducible refine (cP'.out _).mono ?_); rintro e w2 ⟨rfl, b2⟩; have f2 := rd_on f1 b2; have s2 : w.heap.size < w2.heap.size := by have := b1.size; have := b2.size; simp at *; omega))
    go_ret
    exact ⟨by rw [HR.out]; rfl, below_on (below_on (below_alloc_ _ _) (by simp) b1) (by have := b1.size; simp at this; omega) b2 |>.alloc (by have := b1.size; have := b2.size; simp at *; omega) _⟩
/-- What Text tells. -/
def D.tx (x : D.Tg) : List Nat := if D.right x then D.spell x else []
end Go.Proofs.YteiikacgcfidmaaGreatDoor
set_option linter.unusedVariables false
set_option linter.unusedSimpArgs false
set_option maxRecDepth 100000
namespace Go.Proofs.YteiikacgcfidmaaGreatDoor.Nm
open Go.RowKit
attribute [local go_sem ↓] Go.wp_at_zero Go.wp_at_succ ld_a ld_n st_a st_n eq_a eq_n ne_a ne_n lv_a lv_n
attribute [local go_sem] run_ld_a run_ld_n run_st_n run_eq_a run_eq_n run_ne_a run_ne_n run_lv_a run_lv_n st_z ne_z rd_new rd_old rd_drew rd_drewN rd_ext

theorem lv_of_a {w : World} {a : Addr} {x : D.Nm} (h : rd w a = some x) : (loadVar 32 a).run Tryz.prog w = .ok (.agg (nc x)) w := (run_lv_a w a).trans (by rw [h]; rfl)
end Go.Proofs.YteiikacgcfidmaaGreatDoor.Nm
set_option linter.unusedVariables false
set_option linter.unusedSimpArgs false
set_option maxRecDepth 100000
namespace Go.Proofs.YteiikacgcfidmaaGreatDoor
open Go.RowKit
attribute [local go_sem ↓] Go.wp_at_zero Go.wp_at_succ ld_k lv_k st_k eq_k ne_k bd_k ld_b lv_b st_b eq_b ne_b bd_25 ld_r lv_r st_rk eq_rk ne_rk bd_r ld_p lv_p st_px bd_p Nm.ld_a Nm.ld_n Nm.st_a Nm.st_n Nm.eq_a Nm.eq_n Nm.ne_a Nm.ne_n Nm.lv_a Nm.lv_n ld_a ld_n st_a st_n eq_a eq_n ne_a ne_n lv_a lv_n
attribute [local go_sem] run_ldk run_lvk run_stk run_eqk run_nek run_bdk_z run_ldb run_lvb run_stb run_eqb run_neb run_ldr run_lvr run_strk run_eqrk run_nerk run_bdr_z run_ldp run_lvp run_stpx Nm.run_ld_a Nm.run_ld_n Nm.run_st_n Nm.run_eq_a Nm.run_eq_n Nm.run_ne_a Nm.run_ne_n Nm.run_lv_a Nm.run_lv_n Nm.rd_new Nm.rd_old Nm.rd_drew Nm.rd_drewN run_ld_a run_ld_n run_sw_a run_sw_n run_eq_a run_eq_n run_ne_a run_ne_n run_lv_a run_lv_n st_z ne_z eq_z rd_new rd_old rd_drew rd_drewN Shp.rd_new Shp.rd_old Shp.rd_drew Shp.rd_drewN Shp.rd_set Shp.tn_new Shp.tn_old Shp.tn_drew Shp.tn_drewN setRow_alloc run_stn3 run_stt15 bdk1 bdk2 bdk3 bdk4


theorem keyof_any (k p a : Int) (n : Nm.D.Nm) (t : D.Tg) (w : World) :
    Calls Tryz.prog 72 #[.int .i64 k, .int .i64 p, .int .i64 a, .agg (Nm.nc n), .agg (nc t)] w fun e w' => e = .returned (.tuple #[.agg (kS.v (D.kof k p a n t).1), .int .i64 (D.kof k p a n t).2]) ∧ Below w.heap.size w w' := key_of_gen right_any k p a n t w
theorem D.kright_eq (x : D.Ky) : D.kright x = (decide ((D.kof x.k x.p x.a x.n x.t).2 = 0) && kS.sm (D.kof x.k x.p x.a x.n x.t).1 x) := by
  rw [kS_sm]
  unfold D.kright D.kof
  by_cases h : D.err x.k x.p x.a x.n x.t = 0
  · rw [if_pos h]; simp [h]
  · rw [if_neg h]; simp [h]
set_option maxHeartbeats 2000000 in
theorem keyright_any (x : D.Ky) (w : World) : Calls Tryz.prog 50 #[.agg (kS.v x)] w fun e w' => e = .returned (.bool (D.kright x)) ∧ Below w.heap.size w w' := by
  have f0 := Shp.rd_new (S := kS) w _ 39 x rfl
  obtain ⟨c0, c1, c2, c3, c4⟩ := kf0 f0
  have l0 : (x.k : Int) < 256 := by have := x.k_lt; omega
  have l1 : (x.p : Int) < 256 := by have := x.p_lt; omega
  have l2 : (x.a : Int) < 256 := by have := x.a_lt; omega
  have cO := keyof_any x.k x.p x.a x.n x.t
  have hr := D.kright_eq x
  obtain ⟨⟨y, e⟩, he⟩ : ∃ q, D.kof x.k x.p x.a x.n x.t = q := ⟨_, rfl⟩
  rw [he] at cO hr
  simp only at cO hr
  have CO := Lib.hid cO
  clear cO he
  by_cases h : e = 0
  · have HR := Lib.hid (show D.kright x = kS.sm y x by rw [hr]; simp [h])
    clear hr
    subst h
    go_enter Tryz.func50, Tryz.ntmps50
    go_wp2_with (go_at_call 72; (with_reducible refine (CO.out _).mono ?_); rintro e w1 ⟨rfl, b1⟩; have f1 := Shp.rd_on f0 b1; have s1 : w.heap.size < w1.heap.size := by have := b1.size; simp at this; omega)
    go_ret
    exact ⟨by rw [HR.out]; rfl, (below_up (below_alloc_ _ _) (by simp) b1).alloc (by omega) _⟩
  · have HR := Lib.hid (show D.kright x = false by rw [hr]; simp [h])
    clear hr
    go_enter Tryz.func50, Tryz.ntmps50
    go_wp2_with (go_at_call 72; (with_reducible refine (CO.out _).mono ?_); rintro e w1 ⟨rfl, b1⟩; have f1 := Shp.rd_on f0 b1; have s1 : w.heap.size < w1.heap.size := by have := b1.size; simp at this; omega)
    go_ret
    exact ⟨by rw [HR.out]; rfl, (below_up (below_alloc_ _ _) (by simp) b1).alloc (by omega) _⟩
end Go.Proofs.YteiikacgcfidmaaGreatDoor
