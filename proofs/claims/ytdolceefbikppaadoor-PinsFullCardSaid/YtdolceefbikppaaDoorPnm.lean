/-
  Pins, without memory: which numbers are taken, as bits; the least that is free; how many are at a time.
-/
import Derived.Lib.TrailingZeros
set_option linter.unusedVariables false
set_option linter.unusedSimpArgs false
namespace Go.Proofs.YtdolceefbikppaaDoor.D
/-- The times of pins by their numbers. -/
abbrev Ps := List (Option Nat)
def wd : Ps → Nat
  | [] => 0
  | o :: l => (if o.isSome then 1 else 0) + 2 * wd l
theorem wd_lt : ∀ l : Ps, wd l < 2 ^ l.length
  | [] => by simp [wd]
  | o :: l => by
    have := wd_lt l
    rw [wd, List.length_cons, Nat.pow_succ]
    split <;> omega
theorem wd_bit : ∀ (l : Ps) (i : Nat), (wd l).testBit i = (l.getD i none).isSome
  | [], i => by simp [wd]
  | o :: l, 0 => by
    rw [wd, Nat.testBit_zero]
    cases o <;> simp <;> omega
  | o :: l, i + 1 => by
    rw [wd, Nat.testBit_succ]
    have : ((if o.isSome then 1 else 0) + 2 * wd l) / 2 = wd l := by split <;> omega
    rw [this, wd_bit l i]
    simp
theorem wd_bit_set (l : Ps) (i : Nat) (hi : i < l.length) (o : Option Nat) (j : Nat) : (wd (l.set i o)).testBit j = if i = j then o.isSome else (wd l).testBit j := by
  rw [wd_bit, wd_bit]
  simp only [List.getD_eq_getElem?_getD, List.getElem?_set]
  by_cases e : i = j
  · subst e; simp [hi]
  · simp [e]
theorem wd_or (l : Ps) (i t : Nat) (hi : i < l.length) : wd l ||| 2 ^ i = wd (l.set i (some t)) := by
  apply Nat.eq_of_testBit_eq
  intro j
  rw [wd_bit_set l i hi, Nat.testBit_or, Nat.testBit_two_pow]
  by_cases e : i = j <;> simp [e]
theorem wd_not (l : Ps) (i : Nat) (hi : i < l.length) (n : Nat) (hn : l.length ≤ n) : wd l &&& (2 ^ n - 1 - 2 ^ i) = wd (l.set i none) := by
  apply Nat.eq_of_testBit_eq
  intro j
  have hp : 2 ^ i < 2 ^ n := Nat.pow_lt_pow_right (by decide) (by omega)
  have e : 2 ^ n - 1 - 2 ^ i = 2 ^ n - (2 ^ i + 1) := by omega
  rw [wd_bit_set l i hi, Nat.testBit_and, e, Nat.testBit_two_pow_sub_succ hp, Nat.testBit_two_pow]
  by_cases e : i = j
  · subst e; simp
  · simp [e]
    intro h
    rw [wd_bit] at h
    rcases Nat.lt_or_ge j l.length with h1 | h1
    · omega
    · rw [List.getD_eq_getElem?_getD, List.getElem?_eq_none h1] at h; cases h
theorem wd_shift (l : Ps) (i : Nat) : wd l / 2 ^ i % 2 = if (l.getD i none).isSome then 1 else 0 := by
  have := wd_bit l i
  rw [Nat.testBit_eq_decide_div_mod_eq] at this
  split <;> rename_i h
  · rw [h] at this; exact of_decide_eq_true this
  · rw [Bool.not_eq_true] at h
    rw [h] at this
    have := of_decide_eq_false this
    omega
/-- The least that is free. -/
def fr : Ps → Nat
  | [] => 0
  | none :: _ => 0
  | some _ :: l => fr l + 1
theorem fr_le : ∀ l : Ps, fr l ≤ l.length
  | [] => Nat.le_refl _
  | none :: _ => Nat.zero_le _
  | some _ :: l => by have := fr_le l; simp [fr]; omega
theorem fr_none : ∀ {l : Ps}, fr l < l.length → l[fr l]? = some none
  | [], h => by simp [fr] at h
  | none :: _, _ => rfl
  | some _ :: l, h => by
    rw [fr, List.getElem?_cons_succ]
    exact fr_none (by simp [fr] at h; omega)
theorem fr_some : ∀ {l : Ps} {i : Nat}, i < fr l → ∃ t, l[i]? = some (some t)
  | [], i, h => by simp [fr] at h
  | none :: _, i, h => by simp [fr] at h
  | some t :: l, 0, _ => ⟨t, rfl⟩
  | some _ :: l, i + 1, h => by
    rw [List.getElem?_cons_succ]
    exact fr_some (by simp [fr] at h; omega)
theorem fr_full : ∀ {l : Ps}, fr l = l.length → wd l = 2 ^ l.length - 1
  | [], _ => rfl
  | none :: l, h => by simp [fr] at h
  | some t :: l, h => by
    have h1 : fr l = l.length := by simpa [fr] using h
    have h2 := fr_full h1
    have h3 := wd_lt l
    rw [wd, h2, List.length_cons, Nat.pow_succ]
    simp; omega
theorem fr_ctz : ∀ (l : Ps), fr l < l.length → wd l < 2 ^ l.length - 1 ∧ Lib.ctzFrom l.length (2 ^ l.length - 1 - wd l) = fr l
  | [], h => by simp [fr] at h
  | none :: l, _ => by
    have h3 := wd_lt l
    rw [wd, List.length_cons, Nat.pow_succ]
    refine ⟨by simp; omega, ?_⟩
    rw [Lib.ctzFrom, if_pos (by simp; omega)]
    rfl
  | some t :: l, h => by
    have h1 : fr l < l.length := by simpa [fr] using h
    obtain ⟨h2, h4⟩ := fr_ctz l h1
    have h3 := wd_lt l
    rw [wd, List.length_cons, Nat.pow_succ]
    refine ⟨by simp; omega, ?_⟩
    rw [Lib.ctzFrom, if_neg (by simp; omega)]
    have : (2 ^ l.length * 2 - 1 - ((if (some t).isSome = true then 1 else 0) + 2 * wd l)) / 2 = 2 ^ l.length - 1 - wd l := by simp; omega
    rw [this, h4, fr, Nat.add_comm]
theorem fr_tz {l : Ps} (hl : l.length = 64) : Lib.ctz 64 (18446744073709551615 - wd l) = fr l := by
  have e : 18446744073709551615 = 2 ^ l.length - 1 := by rw [hl]
  rcases Nat.lt_or_ge (fr l) l.length with h | h
  · obtain ⟨h1, h2⟩ := fr_ctz l h
    rw [Lib.ctz, if_neg (by omega), ← h2, hl]
  · have h1 := fr_full (Nat.le_antisymm (fr_le l) h)
    have h2 := fr_le l
    rw [Lib.ctz, if_pos (by omega)]
    omega
/-- How many are at a time. -/
def cn (l : Ps) (t : Nat) : Nat := l.count (some t)
theorem cn_le (l : Ps) (t : Nat) : cn l t ≤ l.length := List.count_le_length
theorem cn_pos {l : Ps} {t : Nat} : 0 < cn l t ↔ some t ∈ l := List.count_pos_iff
theorem cn_put {l : Ps} {i : Nat} (h : l[i]? = some none) (t x : Nat) : cn (l.set i (some t)) x = if t = x then cn l x + 1 else cn l x := by
  obtain ⟨hi, he⟩ := List.getElem?_eq_some_iff.1 h
  unfold cn
  rw [List.count_set hi, he]
  by_cases e : t = x <;> simp [e]
theorem cn_out {l : Ps} {i t : Nat} (h : l[i]? = some (some t)) (x : Nat) : cn (l.set i none) x = if t = x then cn l x - 1 else cn l x := by
  obtain ⟨hi, he⟩ := List.getElem?_eq_some_iff.1 h
  unfold cn
  rw [List.count_set hi, he]
  by_cases e : t = x <;> simp [e]
theorem nodup_len : ∀ {K : List Nat} {l : Ps}, K.Nodup → (∀ x ∈ K, some x ∈ l) → K.length ≤ l.length
  | [], l, _, _ => Nat.zero_le _
  | x :: K, l, hn, h => by
    have hx := h x (List.mem_cons_self ..)
    have hx' := (List.nodup_cons.1 hn).1
    have := nodup_len (K := K) (l := l.erase (some x)) (List.nodup_cons.1 hn).2 fun y hy => (List.mem_erase_of_ne (by intro e; injection e with e; subst e; exact hx' hy)).2 (h y (List.mem_cons_of_mem _ hy))
    rw [List.length_erase_of_mem hx] at this
    have hl : 0 < l.length := List.length_pos_of_mem hx
    simp; omega
end Go.Proofs.YtdolceefbikppaaDoor.D
