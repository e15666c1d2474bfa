/-
  The document's Text.
-/
import Derived.Test.YtgbnaammphilhaaDoorRby
set_option linter.unusedVariables false
set_option linter.unusedSimpArgs false
namespace Go.Proofs.YtgbnaammphilhaaDoor
open Go.RowKit
attribute [local go_sem ↓] Go.wp_at_zero Go.wp_at_succ

theorem sb_app (l k : List Nat) : D.sb (l ++ k) = D.sb l ++ D.sb k := by
  refine ByteArray.ext ?_
  rw [ByteArray.data_append]
  simp [D.sb]
set_option maxRecDepth 100000 in
set_option maxHeartbeats 1000000 in
theorem ref_text (a b c : ByteArray) (w : World) (ha : a.size ≤ 100) (hb : b.size ≤ 100) (hc : c.size ≤ 100) :
    Calls Tryd.prog 12 #[.agg #[.string a, .string b, .string c]] w fun e w' => e = .returned (.string (D.sb (D.txt ⟨D.ns a, D.ns b, D.ns c⟩))) ∧ Below w.heap.size w w' := by
  have n0 : ∀ s : ByteArray, D.ns s = [] ↔ s.size = 0 := fun s => by rw [← D.ns_len, List.length_eq_zero_iff]
  have nt : ∀ s : ByteArray, s.size ≠ 0 → s.toList.isEmpty = false := fun s h => by
    rw [ByteArray.toList_eq]
    cases e : s.data.toList with
    | nil => exact absurd (by have := congrArg List.length e; simpa using this) h
    | cons => rfl
  by_cases h1 : a.size = 0
  · have e : D.txt ⟨D.ns a, D.ns b, D.ns c⟩ = D.rootT := by unfold D.txt; rw [if_pos ((n0 a).2 h1)]
    obtain rfl : a = ByteArray.empty := D.ns_inj ((n0 a).2 h1)
    rw [e]
    clear e h1 n0 nt
    go_enter Tryd.func12, Tryd.ntmps12
    go_wp2
    go_ret
    exact ⟨rfl, below_alloc_ _ _⟩
  · have e1 : ¬ D.ns a = [] := fun h => h1 ((n0 a).1 h)
    have f1 := nt a h1
    by_cases h2 : b.size = 0 <;> by_cases h3 : c.size = 0
    · obtain rfl : b = ByteArray.empty := D.ns_inj ((n0 b).2 h2)
      obtain rfl : c = ByteArray.empty := D.ns_inj ((n0 c).2 h3)
      have e : D.sb (D.txt ⟨D.ns a, D.ns ByteArray.empty, D.ns ByteArray.empty⟩) = a := by
        unfold D.txt
        simp only [if_neg e1, show D.ns ByteArray.empty = [] from rfl, if_true, List.append_nil]
        rw [D.sb_ns]
      have E := Lib.hid e
      clear e h1 h2 h3 e1 n0 nt
      go_enter Tryd.func12, Tryd.ntmps12
      go_wp2
      go_ret
      exact ⟨by rw [E.out]; rfl, below_alloc_ _ _⟩
    · obtain rfl : b = ByteArray.empty := D.ns_inj ((n0 b).2 h2)
      have f3 := nt c h3
      have g3 : (!c.toList.isEmpty) = true := by rw [f3]; rfl
      have e : D.sb (D.txt ⟨D.ns a, D.ns ByteArray.empty, D.ns c⟩) = a ++ ⟨#[45]⟩ ++ c := by
        unfold D.txt
        simp only [if_neg e1, show D.ns ByteArray.empty = [] from rfl, if_true, List.nil_append, if_neg (fun h => h3 ((n0 c).1 h))]
        rw [show (45 : Nat) :: D.ns c = [45] ++ D.ns c from rfl, sb_app, sb_app, D.sb_ns, D.sb_ns, ← ByteArray.append_assoc]
        rfl
      have E := Lib.hid e
      clear e h1 h2 h3 e1 n0 nt
      go_enter Tryd.func12, Tryd.ntmps12
      go_wp2
      go_ret
      exact ⟨by rw [E.out]; rfl, below_alloc_ _ _⟩
    · obtain rfl : c = ByteArray.empty := D.ns_inj ((n0 c).2 h3)
      have f2 := nt b h2
      have g2 : (!b.toList.isEmpty) = true := by rw [f2]; rfl
      have e : D.sb (D.txt ⟨D.ns a, D.ns b, D.ns ByteArray.empty⟩) = a ++ ⟨#[45]⟩ ++ b := by
        unfold D.txt
        simp only [if_neg e1, show D.ns ByteArray.empty = [] from rfl, if_true, List.append_nil, if_neg (fun h => h2 ((n0 b).1 h))]
        rw [show (45 : Nat) :: D.ns b = [45] ++ D.ns b from rfl, sb_app, sb_app, D.sb_ns, D.sb_ns, ← ByteArray.append_assoc]
        rfl
      have E := Lib.hid e
      clear e h1 h2 h3 e1 n0 nt
      go_enter Tryd.func12, Tryd.ntmps12
      go_wp2
      go_ret
      exact ⟨by rw [E.out]; rfl, below_alloc_ _ _⟩
    · have f2 := nt b h2
      have g2 : (!b.toList.isEmpty) = true := by rw [f2]; rfl
      have f3 := nt c h3
      have g3 : (!c.toList.isEmpty) = true := by rw [f3]; rfl
      have e : D.sb (D.txt ⟨D.ns a, D.ns b, D.ns c⟩) = a ++ ⟨#[45]⟩ ++ b ++ ⟨#[45]⟩ ++ c := by
        unfold D.txt
        simp only [if_neg e1, if_neg (fun h => h2 ((n0 b).1 h)), if_neg (fun h => h3 ((n0 c).1 h))]
        rw [show (45 : Nat) :: D.ns c = [45] ++ D.ns c from rfl, show (45 : Nat) :: D.ns b = [45] ++ D.ns b from rfl, sb_app, sb_app, sb_app, sb_app, D.sb_ns, D.sb_ns, D.sb_ns]
        simp only [ByteArray.append_assoc]
        rfl
      have E := Lib.hid e
      clear e h1 h2 h3 e1 n0 nt
      go_enter Tryd.func12, Tryd.ntmps12
      go_wp2
      go_ret
      exact ⟨by rw [E.out]; rfl, below_alloc_ _ _⟩
end Go.Proofs.YtgbnaammphilhaaDoor
