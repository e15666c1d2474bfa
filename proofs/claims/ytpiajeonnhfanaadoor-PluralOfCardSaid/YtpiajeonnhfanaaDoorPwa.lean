/-
  The laws of numbers' categories, and of 100 more: their walks.
-/
import Derived.Test.YtpiajeonnhfanaaDoorPlz
import Derived.Test.YtpiajeonnhfanaaDoorPlk
import Derived.Test.YtpiajeonnhfanaaDoorPls
import Derived.Test.YtpiajeonnhfanaaDoorPld
set_option linter.unusedVariables false
set_option linter.unusedSimpArgs false
set_option maxRecDepth 100000
namespace Go.Proofs.YtpiajeonnhfanaaDoor
open Go.RowKit
attribute [local go_sem ↓] Go.wp_at_zero Go.wp_at_succ ld_a ld_n st_a st_n eq_a eq_n ne_a ne_n lv_a lv_n lp_3 lp_4
attribute [local go_sem] run_ld_a run_ld_n run_sw_a run_sw_n run_eq_a run_eq_n run_ne_a run_ne_n run_lv_a run_lv_n st_z ne_z eq_z rd_new rd_old rd_drew rd_drewN rd_set tn_new tn_old tn_drew tn_drewN setRow_alloc run_lp_3 run_lp_4 rd_ext cell_ext
theorem in_true (x : D.Tg) (c : Nat) (hc : c ≤ 5) (h : D.inn (D.gr x) c = true) (w : World) : Calls Tryd.prog 11 #[.agg (nc x), .int .i64 c] w fun e w' => e = .returned (.bool true) ∧ Below w.heap.size w w' := by
  have := in_any x (c : Int) w
  rwa [decide_eq_true (show 0 ≤ (c : Int) ∧ (c : Int) < 6 by omega), Bool.true_and, Int.toNat_natCast, h] at this
set_option maxHeartbeats 4000000 in
theorem of_all (x : D.Tg) (n : Nat) (w : World) (hn : n < 18446744073709551616) : Calls Tryd.prog 3 #[.agg (nc x), .int .u64 n] w fun e w' => e = .returned (.bool true) ∧ Below w.heap.size w w' := by
  have f0 := rd_new w w.heap.size 25 x rfl
  have z0 := (Fw.self w).alloc (.cells (nc x) 25)
  have cG := fun W => lgroup_any x W
  have cO := fun k W => of_any x k W
  have hg := D.gr_le x
  have cI := fun W => in_true x (D.pof (D.gr x) n) (D.pof_le _ _) (D.pof_inn hg n) W
  have cJ := fun W => (show Calls Tryd.prog 11 #[.agg (nc x), .int .i64 5] W fun e w' => e = .returned (.bool true) ∧ Below W.heap.size W w' from in_true x 5 (by decide) (D.oth_inn hg) W)
  obtain ⟨g, hgg⟩ : ∃ g, D.gr x = g := ⟨_, rfl⟩
  rw [hgg] at cG cO cI hg
  have cD := fun (k : Nat) (hk : k < 18446744073709551616) W => dof_any g k W hg hk
  have CG := Lib.hid cG
  have CO := Lib.hid cO
  have CD := Lib.hid cD
  have CI := Lib.hid cI
  have CJ := Lib.hid cJ
  clear cG cO cI cJ cD hgg
  go_enter Tryd.func3, Tryd.ntmps3
  go_wp2_with (go_at_call 7; (with_reducible refine (CG.out _).mono ?_); rintro e w1 ⟨rfl, b1⟩; have f1 := rd_on f0 b1; have z1 := z0.on b1)
  go_loopw [6] (fun i wr => ∃ k : Nat, k ≤ 130 ∧ i = .int .u64 k ∧ rd wr ⟨w.heap.size, 0, none⟩ = some x ∧ Fw w wr) (fun i _ => 130 - (intOf i).toNat)
  case atStart => exact ⟨0, Nat.zero_le _, rfl, f1, z1⟩
  case round =>
    obtain ⟨k, hk, rfl, fr, zr⟩ := hrel
    clear f0 f1 z0 z1
    by_cases hlt : k < 130
    · have hK : (k : Int) < 130 := by omega
      have C1 := Lib.hid (CO.out k)
      have C2 := Lib.hid (CD.out k (by omega))
      obtain ⟨v, hv⟩ : ∃ v, D.pof g k = v := ⟨_, rfl⟩
      rw [hv] at C1 C2
      clear hv CG CO CD CI CJ
      go_wp2_with (first
        | (go_at_call 8; (with_reducible refine (C1.out _).mono ?_); rintro e w2 ⟨rfl, b2⟩; have f2 := rd_on fr b2; have z2 := zr.on b2)
        | (go_at_call 9; (with_reducible refine (C2.out _).mono ?_); rintro e w3 ⟨rfl, rfl⟩))
      go_roundw
      case rel => exact ⟨k + 1, by omega, by go_num, f2, z2⟩
      case measure => simp [intOf]; omega
    · obtain rfl : k = 130 := by omega
      have C1 := Lib.hid (CO.out n)
      have C2 := Lib.hid (CD.out n hn)
      have CI' := Lib.hid CI.out
      obtain ⟨v, hv⟩ : ∃ v, D.pof g n = v := ⟨_, rfl⟩
      rw [hv] at C1 C2 CI'
      clear hv CG CO CD CI
      go_wp2_with (first
        | (go_at_call 8; (with_reducible refine (C1.out _).mono ?_); rintro e w2 ⟨rfl, b2⟩; have f2 := rd_on fr b2; have z2 := zr.on b2)
        | (go_at_call 10; (with_reducible refine (known_any _).mono ?_); rintro e w3 ⟨rfl, b3⟩; have f3 := rd_on f2 b3; have z3 := z2.on b3)
        | (go_at_call 9; (with_reducible refine (C2.out _).mono ?_); rintro e w4 ⟨rfl, rfl⟩)
        | (go_at_call 11; (with_reducible refine (CI'.out _).mono ?_); rintro e w5 ⟨rfl, b5⟩; have f5 := rd_on f3 b5; have z5 := z3.on b5)
        | (go_at_call 11; (with_reducible refine (CJ.out _).mono ?_); rintro e w6 ⟨rfl, b6⟩; have z6 := z5.on b6)
        | fail)
      go_ret
      exact ⟨rfl, z6.below⟩
/-- A number below 100, or so great, or a group that does not go by the last digits: the example alone is asked. -/
def Bare (n g : Nat) : Prop := n < 100 ∨ 18446744073709551515 < n ∨ g = 0 ∨ g = 1 ∨ g = 2 ∨ g = 5
set_option maxHeartbeats 4000000 in
theorem rounds_bare (x : D.Tg) (n : Nat) (w : World) (hb : Bare n (D.gr x)) : Calls Tryd.prog 6 #[.agg (nc x), .int .u64 n] w fun e w' => e = .returned (.bool true) ∧ Below w.heap.size w w' := by
  have f0 := rd_new w w.heap.size 25 x rfl
  have z0 := (Fw.self w).alloc (.cells (nc x) 25)
  have cG := fun W => lgroup_any x W
  obtain ⟨g, hgg⟩ : ∃ g, D.gr x = g := ⟨_, rfl⟩
  rw [hgg] at cG hb
  clear hgg
  rcases (show n < 100 ∨ (100 ≤ n ∧ 18446744073709551515 < n) ∨ (100 ≤ n ∧ n ≤ 18446744073709551515 ∧ (g = 0 ∨ g = 1 ∨ g = 2 ∨ g = 5)) by unfold Bare at hb; omega) with h | ⟨h1, h2⟩ | ⟨h1, h2, h3⟩
  · have i1 : (n : Int) < 100 := by omega
    have CG := Lib.hid cG
    clear cG h hb
    go_enter Tryd.func6, Tryd.ntmps6
    go_wp2_with (first
      | (go_at_call 7; (with_reducible refine (CG.out _).mono ?_); rintro e w1 ⟨rfl, b1⟩; have f1 := rd_on f0 b1; have z1 := z0.on b1)
      | (go_at_call 10; (with_reducible refine (known_any _).mono ?_); rintro e w3 ⟨rfl, b3⟩; have z3 := z1.on b3))
    go_ret
    exact ⟨rfl, z3.below⟩
  · have i1 : (100 : Int) ≤ n := by omega
    have i2 : (18446744073709551515 : Int) < n := by omega
    have CG := Lib.hid cG
    clear cG h1 h2 hb
    go_enter Tryd.func6, Tryd.ntmps6
    go_wp2_with (first
      | (go_at_call 7; (with_reducible refine (CG.out _).mono ?_); rintro e w1 ⟨rfl, b1⟩; have f1 := rd_on f0 b1; have z1 := z0.on b1)
      | (go_at_call 10; (with_reducible refine (known_any _).mono ?_); rintro e w3 ⟨rfl, b3⟩; have z3 := z1.on b3))
    go_ret
    exact ⟨rfl, z3.below⟩
  · have i1 : (100 : Int) ≤ n := by omega
    have i2 : (n : Int) ≤ 18446744073709551515 := by omega
    clear h1 h2 hb
    rcases h3 with rfl | rfl | rfl | rfl
    all_goals
      have CG := Lib.hid cG
      clear cG
      go_enter Tryd.func6, Tryd.ntmps6
      go_wp2_with (first
        | (go_at_call 7; (with_reducible refine (CG.out _).mono ?_); rintro e w1 ⟨rfl, b1⟩; have f1 := rd_on f0 b1; have z1 := z0.on b1)
        | (go_at_call 10; (with_reducible refine (known_any _).mono ?_); rintro e w3 ⟨rfl, b3⟩; have z3 := z1.on b3))
      go_ret
      exact ⟨rfl, z3.below⟩
set_option maxHeartbeats 8000000 in
theorem rounds_full (x : D.Tg) (n : Nat) (w : World) (h1 : 100 ≤ n) (h2 : n ≤ 18446744073709551515) (hg : D.gr x = 3 ∨ D.gr x = 4 ∨ D.gr x = 6 ∨ D.gr x = 7) : Calls Tryd.prog 6 #[.agg (nc x), .int .u64 n] w fun e w' => e = .returned (.bool true) ∧ Below w.heap.size w w' := by
  have f0 := rd_new w w.heap.size 25 x rfl
  have z0 := (Fw.self w).alloc (.cells (nc x) 25)
  have cG := fun W => lgroup_any x W
  have cA := fun W => of_any x n W
  have cB := fun W => of_any x (n + 100) W
  rw [D.pof_more hg h1, show ((n + 100 : Nat) : Int) = (n : Int) + 100 by omega] at cB
  obtain ⟨v, hv⟩ : ∃ v, D.pof (D.gr x) n = v := ⟨_, rfl⟩
  rw [hv] at cA cB
  obtain ⟨g, hgg⟩ : ∃ g, D.gr x = g := ⟨_, rfl⟩
  rw [hgg] at cG hg
  have CA := Lib.hid cA
  have CB := Lib.hid cB
  have i1 : (100 : Int) ≤ n := by omega
  have i2 : (n : Int) ≤ 18446744073709551515 := by omega
  have i3 : IntKind.u64.wrap ((n : Int) + 100) = (n : Int) + 100 := by rw [IntKind.wrap]; simp [IntKind.signed, IntKind.bits]; omega
  clear h1 h2 hv hgg cA cB
  rcases hg with rfl | rfl | rfl | rfl
  all_goals
    have CG := Lib.hid cG
    clear cG
    go_enter Tryd.func6, Tryd.ntmps6
    go_wp2_with (go_at_call 7; (with_reducible refine (CG.out _).mono ?_); rintro e w1 ⟨rfl, b1⟩; have f1 := rd_on f0 b1; have z1 := z0.on b1)
    have sf := rd_lt f1
    simp only at sf
    refine wp_region_ext (by kernel_rfl) (by kernel_rfl) ?_
    repeat (go_big_quiet_step (first
      | (go_at_call 10; with_reducible exact calls_ext (known_any _))
      | (go_at_call 8; with_reducible exact calls_ext (CA.out _))
      | (go_at_call 8; with_reducible exact calls_ext (CB.out _))))
    refine wpQuiet_nil ?_
    intro w4 hw4
    have b4 := ext_to hw4
    clear hw4
    have z4 := z1.on b4
    go_wp2
    go_ret
    exact ⟨by simp, z4.below⟩
theorem rounds_all (x : D.Tg) (n : Nat) (w : World) (hn : n < 18446744073709551616) : Calls Tryd.prog 6 #[.agg (nc x), .int .u64 n] w fun e w' => e = .returned (.bool true) ∧ Below w.heap.size w w' := by
  by_cases hb : Bare n (D.gr x)
  · exact rounds_bare x n w hb
  · have hg := D.gr_le x
    unfold Bare at hb
    exact rounds_full x n w (by omega) (by omega) (by omega)
end Go.Proofs.YtpiajeonnhfanaaDoor
