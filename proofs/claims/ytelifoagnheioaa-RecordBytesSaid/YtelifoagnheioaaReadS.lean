/-
  What is read of small bytes: the program's ReadSmall and the document's.
-/
import Derived.Test.YtelifoagnheioaaRd
set_option linter.unusedVariables false
set_option maxRecDepth 100000
set_option linter.unusedSimpArgs false
namespace Go.Proofs.Ytelifoagnheioaa
open Go.RowKit

/-- What is left to be read tells the answer. -/
structure Left (l : List Nat) (j v x k e : Nat) : Prop where
  out : D.rs (l.drop j) j v = (x, k, e)
  lt : v < 128 ^ j
  le : j ≤ 9

theorem left_bad {l : List Nat} {j v x k e b : Nat} (h : Left l j v x k e) (hb : l[j]? = some b) (h1 : j = 9 ∧ 1 < b ∨ 0 < j ∧ b = 0) : x = 0 ∧ k = 0 ∧ e = 3 := by
  have := h.out
  rw [drop_at hb, D.rs, if_pos h1] at this
  simp only [Prod.mk.injEq] at this
  omega
theorem left_last {l : List Nat} {j v x k e b : Nat} (h : Left l j v x k e) (hb : l[j]? = some b) (h1 : ¬ (j = 9 ∧ 1 < b ∨ 0 < j ∧ b = 0)) (h2 : b < 128) : x = v + b % 128 * 128 ^ j ∧ k = j + 1 ∧ e = 0 := by
  have := h.out
  rw [drop_at hb, D.rs, if_neg h1, if_pos h2] at this
  simp only [Prod.mk.injEq] at this
  exact ⟨this.1.symm, this.2.1.symm, this.2.2.symm⟩
theorem left_more {l : List Nat} {j v x k e b : Nat} (h : Left l j v x k e) (hb : l[j]? = some b) (h1 : ¬ (j = 9 ∧ 1 < b ∨ 0 < j ∧ b = 0)) (h2 : ¬ b < 128) : Left l (j + 1) (v + b % 128 * 128 ^ j) x k e := by
  have := h.out
  rw [drop_at hb, D.rs, if_neg h1, if_neg h2] at this
  have hle := h.le
  refine ⟨this, ?_, by omega⟩
  have hlt := h.lt
  have hm : b % 128 * 128 ^ j ≤ 127 * 128 ^ j := Nat.mul_le_mul_right _ (by omega)
  rw [Nat.pow_succ]
  omega
theorem left_end {l : List Nat} {j v x k e : Nat} (h : Left l j v x k e) (hj : l.length ≤ j) : x = 0 ∧ k = 0 ∧ e = 4 := by
  have := h.out
  rw [List.drop_of_length_le hj, D.rs] at this
  simp only [Prod.mk.injEq] at this
  omega
theorem left_lt {l : List Nat} {j v x k e : Nat} (h : Left l j v x k e) : v < 9223372036854775808 := by
  have h1 := h.lt
  have h2 : 128 ^ j ≤ 128 ^ 9 := Nat.pow_le_pow_right (by decide) h.le
  omega
theorem or_step {l : List Nat} {j v x k e q : Nat} (h : Left l j v x k e) (hq : q < 128) (h1 : j = 9 → q ≤ 1) : bits .or .u64 (v : Int) (IntKind.u64.wrap ((q : Int) * 2 ^ (7 * j))) = ((v + q * 128 ^ j : Nat) : Int) := by
  have hlt := h.lt
  have hle := h.le
  have hv := left_lt h
  have hp : (2 : Nat) ^ (7 * j) = 128 ^ j := by rw [Nat.pow_mul]
  have hs : q * 128 ^ j < 18446744073709551616 := by
    by_cases h9 : j = 9
    · subst h9
      have := h1 rfl
      have : q * 128 ^ 9 ≤ 1 * 128 ^ 9 := Nat.mul_le_mul_right _ this
      omega
    · have h2 : 128 ^ j ≤ 128 ^ 8 := Nat.pow_le_pow_right (by decide) (by omega)
      have : q * 128 ^ j ≤ 127 * 128 ^ 8 := Nat.mul_le_mul (by omega) h2
      omega
  rw [wrap_shl, hp, Nat.mod_eq_of_lt hs, u64_or_nat _ _ (by omega) hs, Nat.or_comm, ← hp, Nat.mul_comm q, ← Nat.two_pow_add_eq_or_of_lt (by rw [hp]; exact hlt), Nat.add_comm]
theorem andNot_more {b : Nat} (h : b < 256) : bits .andNot .u8 (b : Int) 128 = ((b % 128 : Nat) : Int) := by
  have e : ∀ b : Nat, b < 256 → bits .andNot .u8 (b : Int) 128 = ((b % 128 : Nat) : Int) := by decide +kernel
  exact e b h

set_option maxRecDepth 20000 in
set_option maxHeartbeats 1000000 in
theorem read_small (A : Option Addr) (n c : Nat) (l : List Nat) (x k e : Nat) (w : World) (ha : Row w A n (bys l)) (hl : Kept (∀ b ∈ l, b < 256)) (hn : n ≤ 1000000) (hr : Kept (D.readS l = (x, k, e))) :
    Calls Try.prog 71 #[.slice A n c] w fun e' w' => e' = Answer x k e ∧ w = w' := by
  have H0 : Left l 0 0 x k e := ⟨hr.out, by decide, by omega⟩
  go_enter Try.func71, Try.ntmps71
  go_wp2_with fail
  go_step3
  go_wp2_with fail
  go_step3
  go_wp2_with fail
  go_loop [5, 6, 7, 12] (fun t s g i => ∃ j v : Nat, j ≤ n ∧ i = .int .i64 j ∧ t = .int .u64 v ∧ s = .int .i64 0 ∧ g = .int .i64 4 ∧ Left l j v x k e) (fun _ _ _ i => n - (intOf i).toNat)
  case atStart => exact ⟨0, 0, Nat.zero_le _, rfl, rfl, rfl, rfl, H0⟩
  case round =>
    clear H0
    obtain ⟨j, v, hj, rfl, rfl, rfl, rfl, HL⟩ := hrel
    have hlen := ha.len
    rw [bys_len] at hlen
    by_cases hlt : j < n
    · obtain ⟨b, hb, hbl⟩ := at_lt (l := l) (i := j) (by omega)
      have hb256 := hl.out b hbl
      obtain ⟨ad, rfl, cb⟩ := ha.cell (bys_at hb)
      obtain ⟨q, hq⟩ : ∃ q, b % 128 = q := ⟨_, rfl⟩
      have hq128 : q < 128 := by omega
      have hqb : q ≤ b := by omega
      have e1 := andNot_more hb256
      rw [hq] at e1
      have hj9 := HL.le
      have hv64 := left_lt HL
      have H1 := Lib.hid (left_bad HL hb)
      have H2 := Lib.hid (left_last HL hb)
      have H3 := Lib.hid (left_more HL hb)
      have H4 := Lib.hid (or_step HL hq128)
      rw [hq] at H2 H3
      clear hb hbl hq hlen ha hl hr HL
      rcases Nat.eq_zero_or_pos b with h0 | h0
      · have hbz : ((b : Int) == 0) = true := by rw [beq_iff_eq]; omega
        have h0 : b ≤ 0 := by omega
        have e0 : bits .andNot .u8 0 128 = (q : Int) := by rw [← e1, show (b : Int) = 0 by omega]
        go_wp2_with fail
        all_goals first
          | (go_ret3; have h := H1.out (by omega); exact ⟨answer_of (by omega) (by omega) (by omega), rfl⟩)
          | (go_ret3; have h := H2.out (by omega) (by omega); exact ⟨answer_of (by rw [H4.out (by omega), h.1]) (by omega) (by omega), rfl⟩)
          | (go_round
             case rel => exact ⟨j + 1, _, by omega, by go_num, by rw [H4.out (by omega)], rfl, rfl, H3.out (by omega) (by omega)⟩
             case measure => simp [intOf]; omega)
      · have hbz : ((b : Int) == 0) = false := by rw [beq_eq_false_iff_ne]; omega
        go_wp2_with fail
        all_goals first
          | (go_ret3; have h := H1.out (by omega); exact ⟨answer_of (by omega) (by omega) (by omega), rfl⟩)
          | (go_ret3; have h := H2.out (by omega) (by omega); exact ⟨answer_of (by rw [H4.out (by omega), h.1]) (by omega) (by omega), rfl⟩)
          | (go_round
             case rel => exact ⟨j + 1, _, by omega, by go_num, by rw [H4.out (by omega)], rfl, rfl, H3.out (by omega) (by omega)⟩
             case measure => simp [intOf]; omega)
    · have h := left_end HL (by omega)
      have H := Lib.hid h
      clear HL hr hl ha hlen h
      go_wp2
      go_ret3
      have h := H.out
      exact ⟨answer_of (by omega) (by omega) (by omega), rfl⟩

theorem add_step {l : List Nat} {j v x k e b p : Nat} (h : Left l j v x k e) (hp : Kept (p = 128 ^ j)) (h1 : j = 9 → b % 128 ≤ 1) : IntKind.u64.wrap ((v : Int) + IntKind.u64.wrap ((b : Int) % 128 * (p : Int))) = ((v + b % 128 * 128 ^ j : Nat) : Int) := by
  have hlt := h.lt
  have hle := h.le
  have hs : v + b % 128 * 128 ^ j < 18446744073709551616 := by
    have hv := left_lt h
    by_cases h9 : j = 9
    · subst h9
      have := h1 rfl
      have : b % 128 * 128 ^ 9 ≤ 1 * 128 ^ 9 := Nat.mul_le_mul_right _ this
      omega
    · have h2 : 128 ^ j ≤ 128 ^ 8 := Nat.pow_le_pow_right (by decide) (by omega)
      have : b % 128 * 128 ^ j ≤ 127 * 128 ^ 8 := Nat.mul_le_mul (by omega) h2
      omega
  rw [hp.out, show (b : Int) % 128 * ((128 ^ j : Nat) : Int) = ((b % 128 * 128 ^ j : Nat) : Int) by push_cast; rfl, IntKind.wrap_u64, IntKind.wrap_u64]
  omega
theorem worth_step {j p : Nat} (hp : Kept (p = 128 ^ j)) (hj : j < 9) : IntKind.u64.wrap ((p : Int) * 128) = ((128 ^ (j + 1) : Nat) : Int) := by
  have h2 : 128 ^ (j + 1) ≤ 128 ^ 9 := Nat.pow_le_pow_right (by decide) (by omega)
  rw [hp.out, show ((128 ^ j : Nat) : Int) * 128 = ((128 ^ (j + 1) : Nat) : Int) by rw [Nat.pow_succ]; push_cast; rfl, IntKind.wrap_u64]
  generalize 128 ^ (j + 1) = z at *
  omega

set_option maxRecDepth 20000 in
set_option maxHeartbeats 1000000 in
theorem ref_read_small (A : Option Addr) (n c : Nat) (l : List Nat) (x k e : Nat) (w : World) (ha : Row w A n (bys l)) (hl : Kept (∀ b ∈ l, b < 256)) (hn : n ≤ 1000000) (hr : Kept (D.readS l = (x, k, e))) :
    Calls Try.prog 50 #[.slice A n c] w fun e' w' => e' = Answer x k e ∧ w = w' := by
  have H0 : Left l 0 0 x k e := ⟨hr.out, by decide, by omega⟩
  go_enter Try.func50, Try.ntmps50
  go_wp2_with fail
  go_loop [5, 6, 7] (fun t s i => ∃ j v p : Nat, j ≤ n ∧ i = .int .i64 j ∧ t = .int .u64 v ∧ s = .int .u64 p ∧ Left l j v x k e ∧ Kept (p = 128 ^ j)) (fun _ _ i => n - (intOf i).toNat)
  case atStart => exact ⟨0, 0, 1, Nat.zero_le _, rfl, rfl, rfl, H0, ⟨rfl⟩⟩
  case round =>
    clear H0
    obtain ⟨j, v, p, hj, rfl, rfl, rfl, HL, HP⟩ := hrel
    have hlen := ha.len
    rw [bys_len] at hlen
    by_cases hlt : j < n
    · obtain ⟨b, hb, hbl⟩ := at_lt (l := l) (i := j) (by omega)
      have hb256 := hl.out b hbl
      obtain ⟨ad, rfl, cb⟩ := ha.cell (bys_at hb)
      have hj9 := HL.le
      have hv64 := left_lt HL
      have H1 := Lib.hid (left_bad HL hb)
      have H2 := Lib.hid (left_last HL hb)
      have H3 := Lib.hid (left_more HL hb)
      have H4 := Lib.hid (add_step (b := b) HL HP)
      have H5 := Lib.hid (worth_step HP)
      clear hb hbl hlen ha hl hr HL HP
      rcases Nat.eq_zero_or_pos b with h0 | h0
      · have hbz : ((b : Int) == 0) = true := by rw [beq_iff_eq]; omega
        have h0 : b ≤ 0 := by omega
        by_cases h9 : j = 9
        · subst h9
          rw [add_succ_ ad 8] at cb
          have N1 := Lib.hid (fun h : 1 < b ∨ b = 0 => H1.out (by omega))
          have N2 := Lib.hid (fun h : ¬ (1 < b ∨ b = 0) => H2.out (by omega))
          have N4 := Lib.hid (fun h : b % 128 ≤ 1 => H4.out (fun _ => h))
          clear H1 H2 H3 H4 H5
          go_wp2_with fail
          all_goals first
            | (go_ret3; have h := N1.out (by omega); exact ⟨answer_of (by omega) (by omega) (by omega), rfl⟩)
            | (go_ret3; have h := N2.out (by omega) (by omega); exact ⟨answer_of (by rw [N4.out (by omega), h.1]) (by omega) (by omega), rfl⟩)
        · have hne9 : ((j : Int) == 9) = false := by rw [beq_eq_false_iff_ne]; omega
          go_wp2_with fail
          all_goals first
            | (go_ret3; have h := H1.out (by omega); exact ⟨answer_of (by omega) (by omega) (by omega), rfl⟩)
            | (go_ret3; have h := H2.out (by omega) (by omega); exact ⟨answer_of (by rw [H4.out (by omega), h.1]) (by omega) (by omega), rfl⟩)
            | (go_ret3; have h := H2.out (by omega) (by omega); exact ⟨answer_of (by rw [h.1, show b = 0 by omega]; simp) (by omega) (by omega), rfl⟩)
            | (go_round
               case rel => exact ⟨j + 1, _, _, by omega, by go_num, by rw [H4.out (by omega)], by rw [H5.out (by omega)], H3.out (by omega) (by omega), ⟨rfl⟩⟩
               case measure => simp [intOf]; omega)
      · have hbz : ((b : Int) == 0) = false := by rw [beq_eq_false_iff_ne]; omega
        by_cases h9 : j = 9
        · subst h9
          rw [add_succ_ ad 8] at cb
          have N1 := Lib.hid (fun h : 1 < b ∨ b = 0 => H1.out (by omega))
          have N2 := Lib.hid (fun h : ¬ (1 < b ∨ b = 0) => H2.out (by omega))
          have N4 := Lib.hid (fun h : b % 128 ≤ 1 => H4.out (fun _ => h))
          clear H1 H2 H3 H4 H5
          go_wp2_with fail
          all_goals first
            | (go_ret3; have h := N1.out (by omega); exact ⟨answer_of (by omega) (by omega) (by omega), rfl⟩)
            | (go_ret3; have h := N2.out (by omega) (by omega); exact ⟨answer_of (by rw [N4.out (by omega), h.1]) (by omega) (by omega), rfl⟩)
        · have hne9 : ((j : Int) == 9) = false := by rw [beq_eq_false_iff_ne]; omega
          go_wp2_with fail
          all_goals first
            | (go_ret3; have h := H1.out (by omega); exact ⟨answer_of (by omega) (by omega) (by omega), rfl⟩)
            | (go_ret3; have h := H2.out (by omega) (by omega); exact ⟨answer_of (by rw [H4.out (by omega), h.1]) (by omega) (by omega), rfl⟩)
            | (go_ret3; have h := H2.out (by omega) (by omega); exact ⟨answer_of (by rw [h.1, show b = 0 by omega]; simp) (by omega) (by omega), rfl⟩)
            | (go_round
               case rel => exact ⟨j + 1, _, _, by omega, by go_num, by rw [H4.out (by omega)], by rw [H5.out (by omega)], H3.out (by omega) (by omega), ⟨rfl⟩⟩
               case measure => simp [intOf]; omega)
    · have h := left_end HL (by omega)
      have H := Lib.hid h
      clear HL hr hl ha hlen h HP
      go_wp2
      go_ret3
      have h := H.out
      exact ⟨answer_of (by omega) (by omega) (by omega), rfl⟩
end Go.Proofs.Ytelifoagnheioaa
