/-
  What a kind uses: the program's and the document's; a number below another.
-/
import Derived.Test.YtgobbdfgjgjigaaGreatDoorKwd
import Derived.Deep.DrawnRows
set_option linter.unusedVariables false
set_option linter.unusedSimpArgs false
set_option maxRecDepth 100000
namespace Go.Proofs.YtgobbdfgjgjigaaGreatDoor
open Go.RowKit
attribute [local go_sem ↓] Go.wp_at_zero Go.wp_at_succ

def usev (k : Int) : Array Value := #[.int .i64 (D.ats k : Int), .bool (D.nmd k), .bool (D.tgd k)]
theorem isk (k : Int) : (1 ≤ k ∧ k ≤ 6) ↔ k = 1 ∨ k = 2 ∨ k = 3 ∨ k = 4 ∨ k = 5 ∨ k = 6 := by omega
theorem uses_none {k : Int} (h : ¬ (1 ≤ k ∧ k ≤ 6)) : D.ats k = 0 ∧ D.nmd k = false ∧ D.tgd k = false := by
  refine ⟨?_, ?_, ?_⟩
  · unfold D.ats; rw [if_neg (by omega), if_neg (by omega)]
  · unfold D.nmd; exact decide_eq_false (by omega)
  · unfold D.tgd; exact decide_eq_false (by omega)
theorem usev_none {k : Int} (h : ¬ (1 ≤ k ∧ k ≤ 6)) : usev k = #[.int .i64 0, .bool false, .bool false] := by
  obtain ⟨h1, h2, h3⟩ := uses_none h
  unfold usev; rw [h1, h2, h3]; rfl
set_option maxHeartbeats 2000000 in
theorem useOf_any (k : Int) (w : World) : Calls Tryz.prog 74 #[.int .i64 k] w fun e w' => e = .returned (.tuple #[.agg (usev k), .bool (decide (1 ≤ k ∧ k ≤ 6))]) ∧ Below w.heap.size w w' := by
  by_cases h : 1 ≤ k ∧ k ≤ 6
  · rcases (isk k).1 h with rfl | rfl | rfl | rfl | rfl | rfl
    · go_enter Tryz.func74, Tryz.ntmps74
      go_wp2
      exact bodyPost_ret (v := .tuple #[.agg #[.int .i64 0, .bool false, .bool false], .bool true]) (by simp [results, Tryz.results74, go_sem, *]) rfl ⟨by rfl, below_alloc_ _ _⟩
    · go_enter Tryz.func74, Tryz.ntmps74
      go_wp2
      exact bodyPost_ret (v := .tuple #[.agg #[.int .i64 16, .bool false, .bool false], .bool true]) (by simp [results, Tryz.results74, go_sem, *]) rfl ⟨by rfl, below_alloc_ _ _⟩
    · go_enter Tryz.func74, Tryz.ntmps74
      go_wp2
      exact bodyPost_ret (v := .tuple #[.agg #[.int .i64 0, .bool false, .bool true], .bool true]) (by simp [results, Tryz.results74, go_sem, *]) rfl ⟨by rfl, below_alloc_ _ _⟩
    · go_enter Tryz.func74, Tryz.ntmps74
      go_wp2
      exact bodyPost_ret (v := .tuple #[.agg #[.int .i64 4, .bool false, .bool false], .bool true]) (by simp [results, Tryz.results74, go_sem, *]) rfl ⟨by rfl, below_alloc_ _ _⟩
    · go_enter Tryz.func74, Tryz.ntmps74
      go_wp2
      exact bodyPost_ret (v := .tuple #[.agg #[.int .i64 4, .bool true, .bool false], .bool true]) (by simp [results, Tryz.results74, go_sem, *]) rfl ⟨by rfl, below_alloc_ _ _⟩
    · go_enter Tryz.func74, Tryz.ntmps74
      go_wp2
      exact bodyPost_ret (v := .tuple #[.agg #[.int .i64 4, .bool true, .bool true], .bool true]) (by simp [results, Tryz.results74, go_sem, *]) rfl ⟨by rfl, below_alloc_ _ _⟩
  · obtain ⟨h1, h2, h3⟩ := uses_none h
    have g1 : ¬ k = 1 := by omega
    have g2 : ¬ k = 2 := by omega
    have g3 : ¬ k = 3 := by omega
    have g4 : ¬ k = 4 := by omega
    have g5 : ¬ k = 5 := by omega
    have g6 : ¬ k = 6 := by omega
    have e : usev k = #[.int .i64 0, .bool false, .bool false] := by unfold usev; rw [h1, h2, h3]; rfl
    rw [e, decide_eq_false h]
    clear e h1 h2 h3 h
    go_enter Tryz.func74, Tryz.ntmps74
    go_wp2
    exact bodyPost_ret (v := .tuple #[.agg #[.int .i64 0, .bool false, .bool false], .bool false]) (by simp [results, Tryz.results74, go_sem, *]) rfl ⟨by rfl, below_alloc_ _ _⟩
theorem below_num (n m : Int) (w : World) : Calls Tryz.prog 75 #[.int .i64 n, .int .i64 m] w fun e w' => e = .returned (.bool (decide (0 ≤ n ∧ n < m))) ∧ w = w' := by
  by_cases h : 0 ≤ n
  · by_cases h2 : n < m
    · rw [decide_eq_true ⟨h, h2⟩]
      go_enter Tryz.func75, Tryz.ntmps75
      go_wp2
      go_ret
      exact ⟨by rfl, by rfl⟩
    · rw [decide_eq_false (by omega)]
      have h3 : m ≤ n := by omega
      go_enter Tryz.func75, Tryz.ntmps75
      go_wp2
      go_ret
      exact ⟨by rfl, by rfl⟩
  · rw [decide_eq_false (by omega)]
    have h3 : n < 0 := by omega
    go_enter Tryz.func75, Tryz.ntmps75
    go_wp2
    go_ret
    exact ⟨by rfl, by rfl⟩
end Go.Proofs.YtgobbdfgjgjigaaGreatDoor
