/-
  The law of picks: its walk.
-/
import Derived.Test.YtpiajeonnhfanaaDoorPlz
import Derived.Test.YtpiajeonnhfanaaDoorPlk
import Derived.Test.YtpiajeonnhfanaaDoorPlq
import Derived.Test.YtpiajeonnhfanaaDoorPld
set_option linter.unusedVariables false
set_option linter.unusedSimpArgs false
set_option maxRecDepth 100000
namespace Go.Proofs.YtpiajeonnhfanaaDoor
open Go.RowKit
attribute [local go_sem ↓] Go.wp_at_zero Go.wp_at_succ ld_a ld_n st_a st_n eq_a eq_n ne_a ne_n lv_a lv_n lp_3 lp_4
attribute [local go_sem] run_ld_a run_ld_n run_sw_a run_sw_n run_eq_a run_eq_n run_ne_a run_ne_n run_lv_a run_lv_n st_z ne_z eq_z rd_new rd_old rd_drew rd_drewN rd_set tn_new tn_old tn_drew tn_drewN setRow_alloc run_lp_3 run_lp_4 rd_ext cell_ext
theorem upto_ints (A : Option Addr) (n c k : Nat) (hk : k ≤ c) : ∀ W, (Instr.slice 35 (.slice A n c) none (some (.int .i64 (k : Int))) none).run Tryd.prog W = .ok (.slice A k c) W := by
  intro W
  have : ∀ a : Addr, a.add 0 = a := add_zero_
  rw [run_slice_h W 35 A n c (by kernel_rfl) .i64 k (by omega) (by omega)]
  simp [Result.andThen, sliced, go_sem]
theorem zs_take (l : List Int) (k : Nat) : (zs l).take k = zs (l.take k) := by simp [zs]
theorem take_more {u : List Int} {k : Nat} {z : Int} (h : u[k]? = some z) (c : Int) (b : Bool) (hb : (z == c) = b) : decide (c ∈ u.take (k + 1)) = (decide (c ∈ u.take k) || b) := by
  subst hb
  rw [List.take_add_one, h]
  by_cases e : c ∈ u.take k
  · simp [e]
  · by_cases f : z = c
    · subst f; simp [e]
    · have f' : ¬ c = z := fun h => f h.symm
      simp [e, f, f']
set_option maxHeartbeats 8000000 in
theorem picks_all (x : D.Tg) (n : Nat) (A : Option Addr) (len cap : Nat) (l : List Int) (w : World) (hn : n < 18446744073709551616) (hr : Row w A len (zs l)) (hc : len ≤ cap) (hm : cap ≤ maxLen) : Calls Tryd.prog 5 #[.agg (nc x), .int .u64 n, .slice A len cap] w fun e w' => e = .returned (.bool true) ∧ Below w.heap.size w w' := by
  obtain ⟨m, hm1, hm2, hmin⟩ := min_run len 10 10 rfl
  have hsl := upto_ints A len cap m (by omega)
  have hr' := hr.take hm1
  rw [zs_take] at hr'
  obtain ⟨u, hu⟩ : ∃ u, l.take m = u := ⟨_, rfl⟩
  rw [hu] at hr'
  have hlen := hr'.len
  rw [zs_len] at hlen
  have f0 := rd_new w w.heap.size 25 x rfl
  have z0 := (Fw.self w).alloc (.cells (nc x) 25)
  have r0 := hr'.alloc (.cells (nc x) 25)
  have cG := fun W => lgroup_any x W
  have hg := D.gr_le x
  have cP := fun W (h : Row W A m (zs u)) => pick_any x n A m cap u W h (by omega)
  have cD := fun W => dof_any (D.gr x) n W hg hn
  obtain ⟨q, hq⟩ : ∃ q, D.pof (D.gr x) n = q := ⟨_, rfl⟩
  rw [hq] at cP cD
  obtain ⟨g, hgg⟩ : ∃ g, D.gr x = g := ⟨_, rfl⟩
  rw [hgg] at cG cD
  have CG := Lib.hid cG
  have CP := Lib.hid cP
  have CD := Lib.hid cD
  clear hu hr hr' hm cG cP cD hq hgg hg hc
  go_enter Tryd.func5, Tryd.ntmps5
  go_wp2_with (first
    | (go_at_call 7; (with_reducible refine (CG.out _).mono ?_); rintro e w1 ⟨rfl, b1⟩; have f1 := rd_on f0 b1; have z1 := z0.on b1; have r1 := r0.on b1)
    | (go_at_call 9; (with_reducible refine (CD.out _).mono ?_); rintro e w2 ⟨rfl, rfl⟩))
  clear hmin hsl CG CD f0 z0 r0
  go_loopw [8, 9, 10] (fun a b i wr => ∃ k : Nat, k ≤ m ∧ a = .bool (decide ((q : Int) ∈ u.take k)) ∧ b = .bool (decide ((5 : Int) ∈ u.take k)) ∧ i = .int .i64 k ∧ wr = w1) (fun _ _ i _ => m - (intOf i).toNat)
  case atStart => exact ⟨0, Nat.zero_le _, by simp, by simp, rfl, rfl⟩
  case round =>
    obtain ⟨k, hk, rfl, rfl, rfl, rfl⟩ := hrel
    by_cases hlt : k < m
    · obtain ⟨z, hz⟩ : ∃ z, u[k]? = some z := ⟨_, List.getElem?_eq_getElem (by omega)⟩
      obtain ⟨ad, rfl, hc⟩ := r1.cell (zs_at hz)
      have hI : (k : Int) < m := by omega
      obtain ⟨bq, tq⟩ : ∃ b, (z == (q : Int)) = b := ⟨_, rfl⟩
      obtain ⟨b5, t5⟩ : ∃ b, (z == (5 : Int)) = b := ⟨_, rfl⟩
      have s1 := take_more hz q bq tq
      have s2 := take_more hz 5 b5 t5
      obtain ⟨a, ha⟩ : ∃ a, decide ((q : Int) ∈ u.take k) = a := ⟨_, rfl⟩
      obtain ⟨b, hb⟩ : ∃ a, decide ((5 : Int) ∈ u.take k) = a := ⟨_, rfl⟩
      rw [ha] at s1 ⊢
      rw [hb] at s2 ⊢
      have S1 := Lib.hid s1
      have S2 := Lib.hid s2
      clear s1 s2 ha hb hz f1 z1 CP hlen
      cases a <;> cases b <;> cases bq <;> cases b5
      all_goals
        go_wp2
        go_roundw
        case rel => exact ⟨k + 1, by omega, by rw [S1.out]; rfl, by rw [S2.out]; rfl, by go_num, trivial⟩
        case measure => simp [intOf]; omega
    · obtain rfl : k = m := by omega
      have hC := CP.out wr r1
      have e : u.take k = u := List.take_of_length_le (by omega)
      rw [e]
      clear CP hlen e
      obtain ⟨a, ha⟩ : ∃ a, decide ((q : Int) ∈ u) = a := ⟨_, rfl⟩
      obtain ⟨b, hb⟩ : ∃ a, decide ((5 : Int) ∈ u) = a := ⟨_, rfl⟩
      rw [ha, hb]
      cases a
      · have h1 : ¬ ((q : Int) ∈ u) := of_decide_eq_false ha
        cases b
        · have h2 : ¬ ((5 : Int) ∈ u) := of_decide_eq_false hb
          rw [show D.pick (q : Int) u = (0, false) by unfold D.pick; rw [if_neg h1, if_neg h2]] at hC
          have HC := Lib.hid hC
          clear hC h1 h2 ha hb
          go_wp2_with (first
            | (go_at_call 17; (with_reducible refine HC.out.mono ?_); rintro e w2 ⟨rfl, b2⟩; have z2 := z1.on b2)
            | (go_at_call 10; (with_reducible refine (known_any _).mono ?_); rintro e w3 ⟨rfl, b3⟩; have z3 := z2.on b3))
          go_ret
          exact ⟨rfl, z3.below⟩
        · have h2 : (5 : Int) ∈ u := of_decide_eq_true hb
          rw [show D.pick (q : Int) u = (5, true) by unfold D.pick; rw [if_neg h1, if_pos h2]] at hC
          have HC := Lib.hid hC
          clear hC h1 h2 ha hb
          go_wp2_with (first
            | (go_at_call 17; (with_reducible refine HC.out.mono ?_); rintro e w2 ⟨rfl, b2⟩; have z2 := z1.on b2)
            | (go_at_call 10; (with_reducible refine (known_any _).mono ?_); rintro e w3 ⟨rfl, b3⟩; have z3 := z2.on b3))
          go_ret
          exact ⟨rfl, z3.below⟩
      · have h1 : (q : Int) ∈ u := of_decide_eq_true ha
        rw [show D.pick (q : Int) u = ((q : Int), true) by unfold D.pick; rw [if_pos h1]] at hC
        have HC := Lib.hid hC
        clear hC h1 ha hb
        go_wp2_with (first
          | (go_at_call 17; (with_reducible refine HC.out.mono ?_); rintro e w2 ⟨rfl, b2⟩; have z2 := z1.on b2)
          | (go_at_call 10; (with_reducible refine (known_any _).mono ?_); rintro e w3 ⟨rfl, b3⟩; have z3 := z2.on b3))
        go_ret
        exact ⟨rfl, z3.below⟩
end Go.Proofs.YtpiajeonnhfanaaDoor
