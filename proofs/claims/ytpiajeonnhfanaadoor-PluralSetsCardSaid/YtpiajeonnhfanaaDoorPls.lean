/-
  The program's sets: whether a number is a category, the set of a tag's language.
-/
import Derived.Test.YtpiajeonnhfanaaDoorPlo
import Derived.Laws.BitsAllLaws
set_option linter.unusedVariables false
set_option linter.unusedSimpArgs false
set_option maxRecDepth 100000
namespace Go.Proofs.YtpiajeonnhfanaaDoor
open Go.RowKit
attribute [local go_sem ↓] Go.wp_at_zero Go.wp_at_succ ld_a ld_n st_a st_n eq_a eq_n ne_a ne_n lv_a lv_n lp_3 lp_4 st_u bd_u
attribute [local go_sem] run_ld_a run_ld_n run_sw_a run_sw_n run_eq_a run_eq_n run_ne_a run_ne_n run_lv_a run_lv_n st_z ne_z eq_z rd_new rd_old rd_drew rd_drewN rd_set tn_new tn_old tn_drew tn_drewN setRow_alloc run_lp_3 run_lp_4 run_stu run_bdu

theorem there_any (c : Int) (w : World) : Calls Tryd.prog 24 #[.int .i64 c] w fun e w' => e = .returned (.bool (decide (0 ≤ c ∧ c < 6))) ∧ w = w' := by
  by_cases h : 0 ≤ c
  · by_cases h2 : c < 6
    · rw [decide_eq_true ⟨h, h2⟩]
      go_enter Tryd.func24, Tryd.ntmps24
      go_wp2
      go_ret
      exact ⟨by rfl, by rfl⟩
    · rw [decide_eq_false (by omega)]
      have h3 : 6 ≤ c := by omega
      go_enter Tryd.func24, Tryd.ntmps24
      go_wp2
      go_ret
      exact ⟨by rfl, by rfl⟩
  · rw [decide_eq_false (by omega)]
    have h3 : c < 0 := by omega
    go_enter Tryd.func24, Tryd.ntmps24
    go_wp2
    go_ret
    exact ⟨by rfl, by rfl⟩
theorem lg_lt (x : D.Tg) : ∀ b ∈ D.lg x, b < 256 := by
  unfold D.lg
  cases hp : D.pt x with
  | none => decide
  | some p => exact txt_lt' (can_lt (D.pt_some hp).1).1 (fun b hb => by cases hb) (fun b hb => by cases hb)
theorem sets_step {l : List (Nat × D.Ts)} {k q : Nat} {t : D.Ts} (h : l[k]? = some (q, t)) : D.sets (l.take (k + 1)) = D.sets (l.take k) ||| 2 ^ q := by
  rw [List.take_add_one, h]
  simp [D.sets]
theorem sets_lt {l : List (Nat × D.Ts)} (h : ∀ q ∈ l, q.1 ≤ 4) : D.sets l < 64 := by
  have : ∀ (l : List (Nat × D.Ts)) (s : Nat), s < 64 → (∀ q ∈ l, q.1 ≤ 4) → l.foldl (fun s q => s ||| 2 ^ q.1) s < 64 := by
    intro l
    induction l with
    | nil => intro s hs _; exact hs
    | cons q l ih =>
      intro s hs hl
      rw [List.foldl_cons]
      refine ih _ ?_ (fun q hq => hl q (List.mem_cons_of_mem _ hq))
      have h1 := hl q (by simp)
      have h2 : 2 ^ q.1 < 2 ^ 6 := Nat.pow_lt_pow_right (by decide) (by omega)
      exact Nat.or_lt_two_pow (n := 6) hs h2
  exact this l 32 (by decide) h
set_option maxHeartbeats 4000000 in
theorem setOf_any (x : D.Tg) (w : World) : Calls Tryd.prog 25 #[.agg (nc x)] w fun e w' => e = .returned (.int .u64 (D.setw (D.gr x) : Nat)) ∧ Below w.heap.size w w' := by
  have f0 := rd_new w w.heap.size 25 x rfl
  have cL := Lib.hid (fun W => language_any x W)
  have cU := fun W => rules_any (D.sb (D.lg x)) W
  rw [D.ns_sb (lg_lt x), show D.grp (D.lg x) = D.gr x from rfl] at cU
  have hrc := @D.rls_cat (D.gr x)
  have hrl := D.rls_len (D.gr x)
  unfold D.setw
  obtain ⟨rs, hrs⟩ : ∃ rs, D.rls (D.gr x) = rs := ⟨_, rfl⟩
  obtain ⟨u, hu⟩ : ∃ u, D.sb (D.lg x) = u := ⟨_, rfl⟩
  rw [hrs] at cU hrc hrl ⊢
  rw [hu] at cU cL
  have CU := Lib.hid cU
  have HC := Lib.hid hrc
  clear cU hrs hu hrc
  go_enter Tryd.func25, Tryd.ntmps25
  go_wp2_with (first
    | (go_at_call 22; (with_reducible refine (cL.out _).mono ?_); rintro e w1 ⟨rfl, b1⟩; have z1 := (Fw.self w).alloc (.cells (nc x) 25) |>.on b1)
    | (go_at_call 21; (with_reducible refine (CU.out _).mono ?_); rintro e w2 ⟨A, m, c, rfl, hR, hmc, b2⟩; have z2 := z1.on b2))
  clear cL CU f0 z1
  have hm5 : m ≤ 5 := by have := hR.len; omega
  go_loopw [3, 10] (fun s i wr => ∃ k : Nat, k ≤ m ∧ s = .int .u64 (D.sets (rs.take k) : Nat) ∧ i = .int .i64 k ∧ Kept (RR wr A m rs) ∧ Fw w wr) (fun _ i _ => m - (intOf i).toNat)
  case atStart => exact ⟨0, Nat.zero_le _, rfl, rfl, ⟨hR⟩, z2⟩
  case round =>
    obtain ⟨k, hk, rfl, rfl, HR, zr⟩ := hrel
    clear z2
    by_cases hlt : k < m
    · clear hR
      obtain ⟨ad, q, t, v, rfl, hq, q0, q1, ft⟩ := HR.out.get hlt
      have hI : (k : Int) < m := by omega
      have one := ft.one
      have HR' : Kept (RR (wr.alloc (.cells #[.int .i64 q, v] 64)) (some ad) m rs) := ⟨HR.out.on (below_alloc_ _ _)⟩
      have zr' := zr.alloc (.cells #[.int .i64 q, v] 64)
      have hbl : ad.block < wr.heap.size := by
        have := World.block_lt_of_cell? wr _ q0
        rwa [block_of_add] at this
      have hst := sets_step hq
      have hs1 : D.sets (rs.take k) < 64 := sets_lt fun q hq => HC.out q (List.mem_of_mem_take hq)
      have hq4 : q ≤ 4 := HC.out _ (List.mem_of_getElem? hq)
      obtain ⟨a, ha⟩ : ∃ a, D.sets (rs.take k) = a := ⟨_, rfl⟩
      rw [ha] at hst hs1 ⊢
      have HS := Lib.hid hst
      clear HR zr ft hq hst ha
      obtain rfl | rfl | rfl | rfl | rfl : q = 0 ∨ q = 1 ∨ q = 2 ∨ q = 3 ∨ q = 4 := by omega
      all_goals
        go_wp2
        go_roundw
        case rel => exact ⟨k + 1, by omega, by rw [HS.out]; exact congrArg _ (u64_or_nat a _ (by omega) (by decide)), by go_num, HR', zr'⟩
        case measure => simp [intOf]; omega
    · obtain rfl : k = m := by omega
      have e5 : rs.take k = rs := List.take_of_length_le (by rw [hR.len]; exact Nat.le_refl _)
      rw [e5]
      clear HR hR e5
      go_wp2
      go_ret
      exact ⟨rfl, zr.below⟩
theorem bit_lit (a k d : Nat) (hd : d = 2 ^ k) (ha : a < 64) : (bits .and .u64 ((a : Int) / (d : Int)) 1 == 1) = (a >>> k % 2 == 1) := by
  have h := u64_and_nat (a / d) 1 (Nat.lt_of_le_of_lt (Nat.div_le_self _ _) (by omega)) (by decide)
  have e : bits .and .u64 ((a : Int) / (d : Int)) 1 = ((a / d % 2 : Nat) : Int) := by
    rw [← Nat.and_one_is_mod, ← h, Int.natCast_ediv]; rfl
  rw [e, Nat.shiftRight_eq_div_pow, ← hd]
  have : a / d % 2 < 2 := Nat.mod_lt _ (by decide)
  obtain h0 | h0 : a / d % 2 = 0 ∨ a / d % 2 = 1 := by omega
  · rw [h0]; rfl
  · rw [h0]; rfl
theorem bit_0 (a : Nat) (ha : a < 64) : (bits .and .u64 (a : Int) 1 == 1) = (a >>> 0 % 2 == 1) := by
  have := bit_lit a 0 1 rfl ha
  rwa [show ((a : Int) / ((1 : Nat) : Int)) = (a : Int) by omega] at this
set_option maxHeartbeats 2000000 in
theorem in_any (x : D.Tg) (c : Int) (w : World) : Calls Tryd.prog 11 #[.agg (nc x), .int .i64 c] w fun e w' => e = .returned (.bool (decide (0 ≤ c ∧ c < 6) && D.inn (D.gr x) c.toNat)) ∧ Below w.heap.size w w' := by
  have f0 := rd_new w w.heap.size 25 x rfl
  have cT := Lib.hid (fun W => there_any c W)
  have cS := Lib.hid (fun W => setOf_any x W)
  have b0 := below_alloc_ w (.cells (nc x) 25)
  by_cases h : 0 ≤ c ∧ c < 6
  · rw [decide_eq_true h] at cT ⊢
    rw [Bool.true_and]
    have hs := D.setw_lt (D.gr_le x)
    obtain ⟨a, ha⟩ : ∃ a, D.setw (D.gr x) = a := ⟨_, rfl⟩
    have hi : ∀ k, D.inn (D.gr x) k = (a >>> k % 2 == 1) := fun k => by rw [← ha]; rfl
    rw [hi]
    rw [ha] at cS hs
    clear ha hi
    obtain rfl | rfl | rfl | rfl | rfl | rfl : c = 0 ∨ c = 1 ∨ c = 2 ∨ c = 3 ∨ c = 4 ∨ c = 5 := by omega
    · go_enter Tryd.func11, Tryd.ntmps11
      go_wp2_with (first
        | (go_at_call 24; (with_reducible refine (cT.out _).mono ?_); rintro e w1 ⟨rfl, rfl⟩)
        | (go_at_call 25; (with_reducible refine (cS.out _).mono ?_); rintro e w2 ⟨rfl, b2⟩))
      go_ret
      exact ⟨bool_of (bit_0 a hs), below_on b0 (by simp) b2⟩
    · go_enter Tryd.func11, Tryd.ntmps11
      go_wp2_with (first
        | (go_at_call 24; (with_reducible refine (cT.out _).mono ?_); rintro e w1 ⟨rfl, rfl⟩)
        | (go_at_call 25; (with_reducible refine (cS.out _).mono ?_); rintro e w2 ⟨rfl, b2⟩))
      go_ret
      exact ⟨bool_of (bit_lit a 1 2 rfl hs), below_on b0 (by simp) b2⟩
    · go_enter Tryd.func11, Tryd.ntmps11
      go_wp2_with (first
        | (go_at_call 24; (with_reducible refine (cT.out _).mono ?_); rintro e w1 ⟨rfl, rfl⟩)
        | (go_at_call 25; (with_reducible refine (cS.out _).mono ?_); rintro e w2 ⟨rfl, b2⟩))
      go_ret
      exact ⟨bool_of (bit_lit a 2 4 rfl hs), below_on b0 (by simp) b2⟩
    · go_enter Tryd.func11, Tryd.ntmps11
      go_wp2_with (first
        | (go_at_call 24; (with_reducible refine (cT.out _).mono ?_); rintro e w1 ⟨rfl, rfl⟩)
        | (go_at_call 25; (with_reducible refine (cS.out _).mono ?_); rintro e w2 ⟨rfl, b2⟩))
      go_ret
      exact ⟨bool_of (bit_lit a 3 8 rfl hs), below_on b0 (by simp) b2⟩
    · go_enter Tryd.func11, Tryd.ntmps11
      go_wp2_with (first
        | (go_at_call 24; (with_reducible refine (cT.out _).mono ?_); rintro e w1 ⟨rfl, rfl⟩)
        | (go_at_call 25; (with_reducible refine (cS.out _).mono ?_); rintro e w2 ⟨rfl, b2⟩))
      go_ret
      exact ⟨bool_of (bit_lit a 4 16 rfl hs), below_on b0 (by simp) b2⟩
    · go_enter Tryd.func11, Tryd.ntmps11
      go_wp2_with (first
        | (go_at_call 24; (with_reducible refine (cT.out _).mono ?_); rintro e w1 ⟨rfl, rfl⟩)
        | (go_at_call 25; (with_reducible refine (cS.out _).mono ?_); rintro e w2 ⟨rfl, b2⟩))
      go_ret
      exact ⟨bool_of (bit_lit a 5 32 rfl hs), below_on b0 (by simp) b2⟩
  · rw [decide_eq_false h] at cT ⊢
    rw [Bool.false_and]
    clear h
    go_enter Tryd.func11, Tryd.ntmps11
    go_wp2_with (go_at_call 24; (with_reducible refine (cT.out _).mono ?_); rintro e w1 ⟨rfl, rfl⟩)
    go_ret
    exact ⟨rfl, b0⟩
end Go.Proofs.YtpiajeonnhfanaaDoor
