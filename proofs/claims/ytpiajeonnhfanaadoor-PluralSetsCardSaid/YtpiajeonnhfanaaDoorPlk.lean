/-
  The chapter's example.
-/
import Derived.Test.YtpiajeonnhfanaaDoorPlo
import Derived.Test.YtpiajeonnhfanaaDoorGm
set_option linter.unusedVariables false
set_option linter.unusedSimpArgs false
set_option maxRecDepth 100000
namespace Go.Proofs.YtpiajeonnhfanaaDoor
open Go.RowKit
attribute [local go_sem ↓] Go.wp_at_zero Go.wp_at_succ ld_a ld_n st_a st_n eq_a eq_n ne_a ne_n lv_a lv_n lp_3 lp_4
attribute [local go_sem] run_ld_a run_ld_n run_sw_a run_sw_n run_eq_a run_eq_n run_ne_a run_ne_n run_lv_a run_lv_n st_z ne_z eq_z rd_new rd_old rd_drew rd_drewN rd_set tn_new tn_old tn_drew tn_drewN setRow_alloc run_lp_3 run_lp_4
def ru : D.Tg := D.tb ⟨[114, 117], [], []⟩
def ar : D.Tg := D.tb ⟨[97, 114], [], []⟩
theorem of_lit (x : D.Tg) (n k : Nat) (h : D.pof (D.gr x) n = k) (w : World) : Calls Tryd.prog 8 #[.agg (nc x), .int .u64 n] w fun e w' => e = .returned (.int .i64 k) ∧ Below w.heap.size w w' := by
  have := of_any x n w
  rwa [h] at this
/-- Two new tags' variables, stored. -/
theorem two_tags (w2 : World) (a b : D.Tg) :
    tn ((w2.alloc (.cells #[.int .u8 0, .int .u8 0, .int .u8 0, .int .u8 0, .int .u8 0, .int .u8 0, .int .u8 0, .int .u8 0, .int .u8 0, .int .u8 0] 25)).alloc (.cells #[.int .u8 0, .int .u8 0, .int .u8 0, .int .u8 0, .int .u8 0, .int .u8 0, .int .u8 0, .int .u8 0, .int .u8 0, .int .u8 0] 25)) w2.heap.size = true ∧ tn (((w2.alloc (.cells #[.int .u8 0, .int .u8 0, .int .u8 0, .int .u8 0, .int .u8 0, .int .u8 0, .int .u8 0, .int .u8 0, .int .u8 0, .int .u8 0] 25)).alloc (.cells #[.int .u8 0, .int .u8 0, .int .u8 0, .int .u8 0, .int .u8 0, .int .u8 0, .int .u8 0, .int .u8 0, .int .u8 0, .int .u8 0] 25)).setRow w2.heap.size (nc a)) (w2.heap.size + 1) = true ∧
    rd ((((w2.alloc (.cells #[.int .u8 0, .int .u8 0, .int .u8 0, .int .u8 0, .int .u8 0, .int .u8 0, .int .u8 0, .int .u8 0, .int .u8 0, .int .u8 0] 25)).alloc (.cells #[.int .u8 0, .int .u8 0, .int .u8 0, .int .u8 0, .int .u8 0, .int .u8 0, .int .u8 0, .int .u8 0, .int .u8 0, .int .u8 0] 25)).setRow w2.heap.size (nc a)).setRow (w2.heap.size + 1) (nc b)) ⟨w2.heap.size, 0, none⟩ = some a ∧
    rd ((((w2.alloc (.cells #[.int .u8 0, .int .u8 0, .int .u8 0, .int .u8 0, .int .u8 0, .int .u8 0, .int .u8 0, .int .u8 0, .int .u8 0, .int .u8 0] 25)).alloc (.cells #[.int .u8 0, .int .u8 0, .int .u8 0, .int .u8 0, .int .u8 0, .int .u8 0, .int .u8 0, .int .u8 0, .int .u8 0, .int .u8 0] 25)).setRow w2.heap.size (nc a)).setRow (w2.heap.size + 1) (nc b)) ⟨w2.heap.size + 1, 0, none⟩ = some b ∧
    Below w2.heap.size w2 ((((w2.alloc (.cells #[.int .u8 0, .int .u8 0, .int .u8 0, .int .u8 0, .int .u8 0, .int .u8 0, .int .u8 0, .int .u8 0, .int .u8 0, .int .u8 0] 25)).alloc (.cells #[.int .u8 0, .int .u8 0, .int .u8 0, .int .u8 0, .int .u8 0, .int .u8 0, .int .u8 0, .int .u8 0, .int .u8 0, .int .u8 0] 25)).setRow w2.heap.size (nc a)).setRow (w2.heap.size + 1) (nc b)) ∧ w2.heap.size + 2 ≤ ((((w2.alloc (.cells #[.int .u8 0, .int .u8 0, .int .u8 0, .int .u8 0, .int .u8 0, .int .u8 0, .int .u8 0, .int .u8 0, .int .u8 0, .int .u8 0] 25)).alloc (.cells #[.int .u8 0, .int .u8 0, .int .u8 0, .int .u8 0, .int .u8 0, .int .u8 0, .int .u8 0, .int .u8 0, .int .u8 0, .int .u8 0] 25)).setRow w2.heap.size (nc a)).setRow (w2.heap.size + 1) (nc b)).heap.size := by
  have T0 : tn ((w2.alloc (.cells #[.int .u8 0, .int .u8 0, .int .u8 0, .int .u8 0, .int .u8 0, .int .u8 0, .int .u8 0, .int .u8 0, .int .u8 0, .int .u8 0] 25)).alloc (.cells #[.int .u8 0, .int .u8 0, .int .u8 0, .int .u8 0, .int .u8 0, .int .u8 0, .int .u8 0, .int .u8 0, .int .u8 0, .int .u8 0] 25)) w2.heap.size = true := tn_of ((Blk.new w2 25 #[.int .u8 0, .int .u8 0, .int .u8 0, .int .u8 0, .int .u8 0, .int .u8 0, .int .u8 0, .int .u8 0, .int .u8 0, .int .u8 0]).alloc (.cells #[.int .u8 0, .int .u8 0, .int .u8 0, .int .u8 0, .int .u8 0, .int .u8 0, .int .u8 0, .int .u8 0, .int .u8 0, .int .u8 0] 25)) rfl
  have T1 : tn ((w2.alloc (.cells #[.int .u8 0, .int .u8 0, .int .u8 0, .int .u8 0, .int .u8 0, .int .u8 0, .int .u8 0, .int .u8 0, .int .u8 0, .int .u8 0] 25)).alloc (.cells #[.int .u8 0, .int .u8 0, .int .u8 0, .int .u8 0, .int .u8 0, .int .u8 0, .int .u8 0, .int .u8 0, .int .u8 0, .int .u8 0] 25)) (w2.heap.size + 1) = true := by
    have := tn_of (Blk.new (w2.alloc (.cells #[.int .u8 0, .int .u8 0, .int .u8 0, .int .u8 0, .int .u8 0, .int .u8 0, .int .u8 0, .int .u8 0, .int .u8 0, .int .u8 0] 25)) 25 #[.int .u8 0, .int .u8 0, .int .u8 0, .int .u8 0, .int .u8 0, .int .u8 0, .int .u8 0, .int .u8 0, .int .u8 0, .int .u8 0]) rfl
    rw [World.size_alloc] at this
    exact this
  have T2 := tn_setRow _ _ w2.heap.size a T1
  have R0 := rd_set _ _ a T0
  have R1 := (rd_far (((w2.alloc (.cells #[.int .u8 0, .int .u8 0, .int .u8 0, .int .u8 0, .int .u8 0, .int .u8 0, .int .u8 0, .int .u8 0, .int .u8 0, .int .u8 0] 25)).alloc (.cells #[.int .u8 0, .int .u8 0, .int .u8 0, .int .u8 0, .int .u8 0, .int .u8 0, .int .u8 0, .int .u8 0, .int .u8 0, .int .u8 0] 25)).setRow w2.heap.size (nc a)) (w2.heap.size + 1) (nc b) ⟨w2.heap.size, 0, none⟩ (by show w2.heap.size ≠ w2.heap.size + 1; omega)).trans R0
  have R2 := rd_set _ _ b T2
  have Z := below_setRow (below_setRow ((below_alloc_ w2 (.cells #[.int .u8 0, .int .u8 0, .int .u8 0, .int .u8 0, .int .u8 0, .int .u8 0, .int .u8 0, .int .u8 0, .int .u8 0, .int .u8 0] 25)).alloc (by simp) (.cells #[.int .u8 0, .int .u8 0, .int .u8 0, .int .u8 0, .int .u8 0, .int .u8 0, .int .u8 0, .int .u8 0, .int .u8 0, .int .u8 0] 25)) (Nat.le_refl _) (nc a)) (Nat.le_succ _) (nc b)
  exact ⟨T0, T2, R1, R2, Z, by have := rd_lt R2; show w2.heap.size + 1 + 1 ≤ _; exact this⟩
set_option maxHeartbeats 4000000 in
theorem known_any (w : World) : Calls Tryd.prog 10 #[] w fun e w' => e = .returned (.bool true) ∧ Below w.heap.size w w' := by
  have C1 := Lib.hid (fun W => (show Calls Tryd.prog 23 #[.agg #[.string ⟨#[114, 117]⟩, .string ⟨#[]⟩, .string ⟨#[]⟩]] W fun e w' => e = .returned (.agg (nc ru)) ∧ Below W.heap.size W w' from to_any ⟨#[114, 117]⟩ ⟨#[]⟩ ⟨#[]⟩ W (by decide) (by decide) (by decide)))
  have C2 := Lib.hid (fun W => (show Calls Tryd.prog 23 #[.agg #[.string ⟨#[97, 114]⟩, .string ⟨#[]⟩, .string ⟨#[]⟩]] W fun e w' => e = .returned (.agg (nc ar)) ∧ Below W.heap.size W w' from to_any ⟨#[97, 114]⟩ ⟨#[]⟩ ⟨#[]⟩ W (by decide) (by decide) (by decide)))
  have O1 := Lib.hid (fun W => (show Calls Tryd.prog 8 #[.agg (nc ru), .int .u64 21] W fun e w' => e = .returned (.int .i64 1) ∧ Below W.heap.size W w' from of_lit ru 21 1 (by decide +kernel) W))
  have O2 := Lib.hid (fun W => (show Calls Tryd.prog 8 #[.agg (nc ru), .int .u64 112] W fun e w' => e = .returned (.int .i64 4) ∧ Below W.heap.size W w' from of_lit ru 112 4 (by decide +kernel) W))
  have O3 := Lib.hid (fun W => (show Calls Tryd.prog 8 #[.agg (nc ar), .int .u64 103] W fun e w' => e = .returned (.int .i64 3) ∧ Below W.heap.size W w' from of_lit ar 103 3 (by decide +kernel) W))
  have O4 := Lib.hid (fun W => (show Calls Tryd.prog 8 #[.agg #[.int .u8 0, .int .u8 0, .int .u8 0, .int .u8 0, .int .u8 0, .int .u8 0, .int .u8 0, .int .u8 0, .int .u8 0, .int .u8 0], .int .u64 0] W fun e w' => e = .returned (.int .i64 5) ∧ Below W.heap.size W w' from of_lit D.zero 0 5 (by decide +kernel) W))
  obtain ⟨a, ha⟩ : ∃ a, ru = a := ⟨_, rfl⟩
  obtain ⟨b, hb⟩ : ∃ a, ar = a := ⟨_, rfl⟩
  rw [ha] at C1 O1 O2
  rw [hb] at C2 O3
  clear ha hb
  go_enter Tryd.func10, Tryd.ntmps10
  go_wp2_with (first
    | (go_at_call 23; (with_reducible refine (C1.out _).mono ?_); rintro e w1 ⟨rfl, b1⟩; have z1 := (Fw.self w).on b1)
    | (go_at_call 23; (with_reducible refine (C2.out _).mono ?_); rintro e w2 ⟨rfl, b2⟩; obtain ⟨T0, T2, R1, R2, Z, sz⟩ := two_tags w2 a b; have z2 := (z1.on b2).on Z; have l1 := rd_lt R1; have l2 := rd_lt R2)
    | (go_at_call 8; (with_reducible refine (O1.out _).mono ?_); rintro e w3 ⟨rfl, b3⟩; have z3 := z2.on b3; have R13 := rd_on R1 b3; have R23 := rd_on R2 b3; clear R1 R2)
    | (go_at_call 8; (with_reducible refine (O2.out _).mono ?_); rintro e w4 ⟨rfl, b4⟩; have z4 := z3.on b4; have R24 := rd_on R23 b4)
    | (go_at_call 8; (with_reducible refine (O3.out _).mono ?_); rintro e w5 ⟨rfl, b5⟩; have z5 := z4.on b5)
    | (go_at_call 8; (with_reducible refine (O4.out _).mono ?_); rintro e w6 ⟨rfl, b6⟩; have z6 := z5.on b6)
    | fail)
  go_ret
  exact ⟨rfl, z6.below⟩
end Go.Proofs.YtpiajeonnhfanaaDoor
