/-
  The program's Right and Text.
-/
import Derived.Test.YtgobbdfgjgjigaaGreatDoorRefa
import Derived.Test.YtgobbdfgjgjigaaGreatDoorSpl
import Derived.Test.YtgobbdfgjgjigaaGreatDoorTpb
import Derived.Deep.Light
import Derived.Sort.Grow
import Derived.Test.YtgobbdfgjgjigaaGreatDoorACut
set_option linter.unusedVariables false
set_option linter.unusedSimpArgs false
namespace Go.Proofs.YtgobbdfgjgjigaaGreatDoor
open Go.RowKit
attribute [local go_sem ↓] Go.wp_at_zero Go.wp_at_succ ld_a ld_n st_a st_n eq_a eq_n ne_a ne_n lv_a lv_n lp_3 lp_4
attribute [local go_sem] run_ld_a run_ld_n run_sw_a run_sw_n run_eq_a run_eq_n run_ne_a run_ne_n run_lv_a run_lv_n st_z ne_z eq_z rd_new rd_old rd_drew rd_drewN rd_set tn_new tn_old tn_drew tn_drewN setRow_alloc run_lp_3 run_lp_4

theorem join_lt : ∀ L : List (List Nat), (∀ l ∈ L, ∀ b ∈ l, b < 256) → ∀ b ∈ D.join L, b < 256
  | [], _, b, hb => by cases hb
  | [x], h, b, hb => h x (by simp) b hb
  | x :: y :: r, h, b, hb => by
    rw [D.join] at hb
    rcases List.mem_append.1 hb with hb | hb
    · exact h x (by simp) b hb
    · rcases List.mem_cons.1 hb with rfl | hb
      · decide
      · exact join_lt (y :: r) (fun l hl => h l (List.mem_cons_of_mem _ hl)) b hb
theorem mem_opt {l a : List Nat} (h : l ∈ (if a = [] then [] else [a])) : l = a := by
  by_cases e : a = []
  · rw [if_pos e] at h; cases h
  · rw [if_neg e] at h; simpa using h
theorem spell_lt (x : D.Tg) : ∀ b ∈ D.spell x, b < 256 := by
  intro b hb
  unfold D.spell at hb
  split at hb
  · revert b; decide
  · refine join_lt _ (fun l hl => ?_) b hb
    have : l = D.hd0 (D.pl x) ∨ l = D.hd0 (D.ps x) ∨ l = D.hd0 (D.pr x) := by
      simp only [D.some3, D.hds, List.mem_append] at hl
      rcases hl with hl | hl | hl
      · exact .inl (mem_opt hl)
      · exact .inr (.inl (mem_opt hl))
      · exact .inr (.inr (mem_opt hl))
    rcases this with rfl | rfl | rfl
    · exact hd0_lt fun b hb => x.lt b (List.mem_of_mem_take hb)
    · exact hd0_lt fun b hb => x.lt b (List.mem_of_mem_drop (List.mem_of_mem_take hb))
    · exact hd0_lt fun b hb => x.lt b (List.mem_of_mem_drop hb)
theorem spell_len2 (x : D.Tg) : (D.spell x).length ≤ 20 := by
  unfold D.spell
  split
  · decide
  · rw [← accs_end]; exact spell_len x
theorem right_eq (x : D.Tg) : D.right x = match D.parse (D.spell x) with
    | none => false
    | some p => sm (D.tb p) x := by
  unfold D.right D.pt sm
  cases D.parse (D.spell x) with
  | none => rfl
  | some p => by_cases h : D.tb p = x <;> simp [h]
theorem parse_spell (x : D.Tg) (w : World) : Calls Tryz.prog 97 #[.string (D.sb (D.spell x))] w fun e w' => e = .returned (.tuple #[.agg (nc (D.tb ((D.parse (D.spell x)).getD D.rt))), .int .i64 (er (D.parse (D.spell x)))]) ∧ Below w.heap.size w w' := by
  have := tag_parse (D.sb (D.spell x)) w (by rw [D.sb_len]; have := spell_len2 x; omega)
  rwa [D.ns_sb (spell_lt x)] at this
set_option maxRecDepth 100000 in
set_option maxHeartbeats 1000000 in
theorem right_any (x : D.Tg) (w : World) : Calls Tryz.prog 77 #[.agg (nc x)] w fun e w' => e = .returned (.bool (D.right x)) ∧ Below w.heap.size w w' := by
  have cS := Lib.hid (fun w => spelled_any x w)
  have cP := fun w => parse_spell x w
  have hr := right_eq x
  have f0 := rd_new w _ 28 x rfl
  obtain ⟨p, hp⟩ : ∃ p, D.parse (D.spell x) = p := ⟨_, rfl⟩
  obtain ⟨l, hl⟩ : ∃ l, D.spell x = l := ⟨_, rfl⟩
  rw [hp] at cP hr
  rw [hl] at cP cS
  clear hp hl
  have HR := Lib.hid hr
  clear hr
  cases p with
  | none =>
    have cP' := Lib.hid (fun w => (show Calls Tryz.prog 97 #[.string (D.sb l)] w fun e w' => e = .returned (.tuple #[.agg (nc D.zero), .int .i64 14]) ∧ Below w.heap.size w w' from cP w))
    clear cP
    go_enter Tryz.func77, Tryz.ntmps77
    go_wp2_with (first
      | (go_at_call 98; (with_reducible refine (cS.out _).mono ?_); rintro e w1 ⟨rfl, b1⟩)
      | (go_at_call 97; (with_reducible refine (cP'.out _).mono ?_); rintro e w2 ⟨rfl, b2⟩))
    go_ret
    exact ⟨by rw [HR.out]; rfl, below_on (below_on (below_alloc_ _ _) (by simp) b1) (by have := b1.size; simp at this; omega) b2 |>.alloc (by have := b1.size; have := b2.size; simp at *; omega) _⟩
  | some q =>
    have cP' := Lib.hid (fun w => (show Calls Tryz.prog 97 #[.string (D.sb l)] w fun e w' => e = .returned (.tuple #[.agg (nc (D.tb q)), .int .i64 0]) ∧ Below w.heap.size w w' from cP w))
    clear cP
    go_enter Tryz.func77, Tryz.ntmps77
    go_wp2_with (first
      | (go_at_call 98; (with_reducible refine (cS.out _).mono ?_); rintro e w1 ⟨rfl, b1⟩; have f1 := rd_on f0 b1)
      | (go_at_call 97; (with_reducible refine (cP'.out _).mono ?_); rintro e w2 ⟨rfl, b2⟩; have f2 := rd_on f1 b2; have s2 : w.heap.size < w2.heap.size := by have := b1.size; have := b2.size; simp at *; omega))
    go_ret
    exact ⟨by rw [HR.out]; rfl, below_on (below_on (below_alloc_ _ _) (by simp) b1) (by have := b1.size; simp at this; omega) b2 |>.alloc (by have := b1.size; have := b2.size; simp at *; omega) _⟩
end Go.Proofs.YtgobbdfgjgjigaaGreatDoor
