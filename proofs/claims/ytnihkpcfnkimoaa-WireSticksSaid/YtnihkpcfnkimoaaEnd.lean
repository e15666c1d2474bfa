/-
  A new reader; what is left, the error, whether all is read; and the reader's calls at a nil pointer.
-/
import Derived.Test.YtnihkpcfnkimoaaLget
set_option linter.unusedVariables false
set_option linter.unusedSimpArgs false
namespace Go.Proofs.Ytnihkpcfnkimoaa
open Go.RowKit
attribute [local go_sem ↓] Go.wp_at_zero Go.wp_at_succ

/-- What Done tells. -/
def dn (e m : Nat) : Nat := if e = 0 then (if 0 < m then 3 else 0) else e
section
variable (q n c place e : Nat) (B : Option Addr) (l : List Nat) (w : World)
theorem left_any (h : Blk w q 67 #[.slice B n c, .int .i64 e, .int .i64 place]) (hp : place ≤ n) (hn : n ≤ 1000000) :
    Calls Try.prog 19 #[.pointer (some ⟨q, 0, none⟩)] w fun en w' => en = .returned (.int .i64 ((n - place : Nat) : Int)) ∧ ∃ u, w' = w.drewN u := by
  have hc0 := (h.c 0).trans rfl
  have hc2 := (h.c 2).trans rfl
  go_enter Try.func19, Try.ntmps19
  go_wp2_with fail
  go_quiet (fail)
  go_wp2
  go_ret
  exact ⟨ret_of (by omega), _, rfl⟩
theorem err_any (h : Blk w q 67 #[.slice B n c, .int .i64 e, .int .i64 place]) :
    Calls Try.prog 20 #[.pointer (some ⟨q, 0, none⟩)] w fun en w' => en = .returned (.int .i64 e) ∧ w = w' := by
  have hc1 := (h.c 1).trans rfl
  go_enter Try.func20, Try.ntmps20
  go_wp2
  go_ret
  exact ⟨rfl, rfl⟩
theorem done_any (r : Nat) (h : Blk w q 67 #[.slice B n c, .int .i64 e, .int .i64 place]) (hp : place ≤ n) (hn : n ≤ 1000000) (hr : Kept (dn e (n - place) = r)) :
    Calls Try.prog 21 #[.pointer (some ⟨q, 0, none⟩)] w fun en w' => en = .returned (.int .i64 r) ∧ ∃ u, w' = w.drewN u := by
  by_cases he : e = 0
  · subst he
    have cE : Hid (Calls Try.prog 20 #[.pointer (some ⟨q, 0, none⟩)] w fun en w' => en = .returned (.int .i64 0) ∧ w = w') := err_any q n c place 0 B w h
    have cL := Lib.hid (left_any q n c place 0 B w h hp hn)
    by_cases h0 : place < n
    · have HR : Kept (3 = r) := ⟨by rw [← hr.out, dn, if_pos rfl, if_pos (by omega)]⟩
      have h1 : 0 < n - place := by omega
      obtain ⟨j, hj⟩ : ∃ j, n - place = j := ⟨_, rfl⟩
      rw [hj] at cL h1
      clear hj hr
      go_enter Try.func21, Try.ntmps21
      go_wp2_with (first
        | (go_at_call 20; (with_reducible refine cE.out.mono ?_); rintro en w1 ⟨rfl, rfl⟩)
        | (go_at_call 19; (with_reducible refine cL.out.mono ?_); rintro en w1 ⟨rfl, u, rfl⟩))
      go_ret
      exact ⟨by rw [← HR.out]; rfl, _, rfl⟩
    · have HR : Kept (0 = r) := ⟨by rw [← hr.out, dn, if_pos rfl, if_neg (by omega)]⟩
      have cL : Hid (Calls Try.prog 19 #[.pointer (some ⟨q, 0, none⟩)] w fun en w' => en = .returned (.int .i64 0) ∧ ∃ u, w' = w.drewN u) := by
        have := cL.out
        rw [show n - place = 0 by omega] at this
        exact this
      clear hr
      go_enter Try.func21, Try.ntmps21
      go_wp2_with (first
        | (go_at_call 20; (with_reducible refine cE.out.mono ?_); rintro en w1 ⟨rfl, rfl⟩)
        | (go_at_call 19; (with_reducible refine cL.out.mono ?_); rintro en w1 ⟨rfl, u, rfl⟩))
      go_ret
      exact ⟨by rw [← HR.out]; rfl, _, rfl⟩
  · have cE := Lib.hid (err_any q n c place e B w h)
    have hb : ((e : Int) != 0) = true := by simp; exact he
    have HR : Kept (e = r) := ⟨by rw [← hr.out, dn, if_neg he]⟩
    clear he hr
    go_enter Try.func21, Try.ntmps21
    go_wp2_with (go_at_call 20; (with_reducible refine cE.out.mono ?_); rintro en w1 ⟨rfl, rfl⟩)
    go_ret
    exact ⟨by rw [← HR.out]; rfl, 0, rfl⟩

theorem new_reader (hr : Row w B n (bys l)) (hl : Kept (∀ b ∈ l, b < 256)) (hn : n ≤ 1000000) :
    Calls Try.prog 16 #[.slice B n c] w fun en w' => ∃ q A' c', en = .returned (.pointer (some ⟨q, 0, none⟩)) ∧ Rd w' q A' n c' l 0 0 ∧ w.heap.size ≤ q ∧ (∀ i, at_ A' i → w.heap.size ≤ i ∧ i < w'.heap.size) ∧ Below w.heap.size w w' := by
  have hlen := hr.len
  rw [bys_len] at hlen
  have cC := clone_any B n c l w hr hn
  unfold Made at cC
  rw [hlen] at cC
  have cC := Lib.hid cC
  clear hlen
  go_enter Try.func16, Try.ntmps16
  go_wp2_with (go_at_call 32; (with_reducible refine cC.out.mono ?_); rintro e w1 ⟨A1, c1, rfl, ho1, hb1⟩)
  go_ret
  have h2 := ho1.cap.2
  unfold maxLen at h2
  refine ⟨w1.heap.size, A1, c1, rfl, ⟨Blk.new _ _ _, ho1.to_row.alloc _, hl, Nat.zero_le _, ho1.cap.1, h2, hn, ?_⟩, hb1.size, fun i hi => ⟨ho1.block_le i (at_own hi), by have := (ho1.row.lt i (at_own hi)).2; simp; omega⟩, hb1.alloc hb1.size _⟩
  rintro ad rfl hq
  have := (ho1.row.lt ad.block (by simp [Value.ownBlock])).2
  omega

section
variable (w : World)
theorem fixed_nil (z : Int) : Calls Try.prog 48 #[.pointer none, .int .i64 z] w fun en w' => en = .returned (.int .u64 0) ∧ Below w.heap.size w w' := by
  go_enter Try.func48, Try.ntmps48
  go_wp2_with (go_at_call 40; (with_reducible refine (take_nil_uint64 _ _ _).mono ?_); rintro en w1 ⟨rfl, rfl⟩)
  go_ret
  exact ⟨rfl, below_alloc' _ _⟩
theorem rbyte_nil : Calls Try.prog 28 #[.pointer none] w fun en w' => en = .returned (.int .u8 0) ∧ Below w.heap.size w w' := by
  go_enter Try.func28, Try.ntmps28
  go_wp2_with (go_at_call 48; (with_reducible refine (fixed_nil _ _).mono ?_); rintro en w1 ⟨rfl, hb⟩)
  go_ret
  exact ⟨rfl, hb⟩
theorem rshort_nil : Calls Try.prog 29 #[.pointer none] w fun en w' => en = .returned (.int .i64 0) ∧ Below w.heap.size w w' := by
  go_enter Try.func29, Try.ntmps29
  go_wp2_with (go_at_call 48; (with_reducible refine (fixed_nil _ _).mono ?_); rintro en w1 ⟨rfl, hb⟩)
  go_ret
  exact ⟨rfl, hb⟩
theorem rword_nil : Calls Try.prog 30 #[.pointer none] w fun en w' => en = .returned (.int .u64 0) ∧ Below w.heap.size w w' := by
  go_enter Try.func30, Try.ntmps30
  go_wp2_with (go_at_call 48; (with_reducible refine (fixed_nil _ _).mono ?_); rintro en w1 ⟨rfl, hb⟩)
  go_ret
  exact ⟨rfl, hb⟩
theorem rnumber_nil (x : Int) : Calls Try.prog 23 #[.pointer none, .int .u64 x] w fun en w' => en = .returned (.int .u64 0) ∧ Below w.heap.size w w' := by
  go_enter Try.func23, Try.ntmps23
  go_wp2_with (go_at_call 40; (with_reducible refine (take_nil_uint64 _ _ _).mono ?_); rintro en w1 ⟨rfl, rfl⟩)
  go_ret
  exact ⟨rfl, below_alloc' _ _⟩
theorem rtext_nil (x : Int) : Calls Try.prog 31 #[.pointer none, .int .i64 x] w fun en w' => en = .returned (.string ⟨#[]⟩) ∧ Below w.heap.size w w' := by
  go_enter Try.func31, Try.ntmps31
  go_wp2_with (go_at_call 49; (with_reducible refine (take_nil_string _ _ _).mono ?_); rintro en w1 ⟨rfl, rfl⟩)
  go_ret
  exact ⟨rfl, below_alloc' _ _⟩
theorem left_nil : Calls Try.prog 19 #[.pointer none] w fun en w' => en = .returned (.int .i64 0) ∧ w = w' := by
  go_enter Try.func19, Try.ntmps19
  go_wp2
  go_ret
  exact ⟨rfl, rfl⟩
theorem err_nil : Calls Try.prog 20 #[.pointer none] w fun en w' => en = .returned (.int .i64 9) ∧ w = w' := by
  go_enter Try.func20, Try.ntmps20
  go_wp2
  go_ret
  exact ⟨rfl, rfl⟩
theorem done_nil : Calls Try.prog 21 #[.pointer none] w fun en w' => en = .returned (.int .i64 9) ∧ w = w' := by
  go_enter Try.func21, Try.ntmps21
  go_wp2_with (go_at_call 20; (with_reducible refine (err_nil _).mono ?_); rintro en w1 ⟨rfl, rfl⟩)
  go_ret
  exact ⟨rfl, rfl⟩
end
end
end Go.Proofs.Ytnihkpcfnkimoaa
