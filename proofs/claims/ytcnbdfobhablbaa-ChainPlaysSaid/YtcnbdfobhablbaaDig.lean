/-
  Numbers as bytes, as lists of plain numbers: ordered bytes, small bytes, what is read of any bytes, and which bytes come first. No program is spoken of.
-/
import Derived.Test.YtcnbdfobhablbaaMath
set_option linter.unusedVariables false
set_option maxRecDepth 100000
set_option linter.unusedSimpArgs false
namespace Go.Proofs.Ytcnbdfobhablbaa
namespace D

/-- The digits of a number to the base 256, the highest first. -/
def od (n : Nat) : List Nat := if _h : n = 0 then [] else od (n / 256) ++ [n % 256]
termination_by n
decreasing_by omega
theorem od_zero : od 0 = [] := by rw [od]; simp
theorem od_pos {n : Nat} (h : n ≠ 0) : od n = od (n / 256) ++ [n % 256] := by rw [od, dif_neg h]
theorem od_len (k : Nat) : ∀ n, (od n).length ≤ k ↔ n < 256 ^ k := by
  induction k with
  | zero =>
    intro n
    by_cases h : n = 0
    · subst h; simp [od_zero]
    · rw [od_pos h]; simp; omega
  | succ k ih =>
    intro n
    by_cases h : n = 0
    · subst h; simp [od_zero]; exact Nat.two_pow_pos 0 |> fun _ => Nat.pow_pos (by decide)
    · rw [od_pos h, List.length_append, List.length_singleton, Nat.add_le_add_iff_right, ih, Nat.pow_succ, Nat.div_lt_iff_lt_mul (by decide)]
theorem od_len8 {n : Nat} (h : n < 18446744073709551616) : (od n).length ≤ 8 := (od_len 8 n).2 h
theorem od_lt (n : Nat) : ∀ b ∈ od n, b < 256 := by
  induction n using od.induct with
  | case1 => simp [od_zero]
  | case2 n h ih =>
    rw [od_pos h]
    intro b hb
    rcases List.mem_append.1 hb with hb | hb
    · exact ih b hb
    · have := List.mem_singleton.1 hb; omega
theorem od_head {n a : Nat} {t : List Nat} (h : od n = a :: t) : a ≠ 0 := by
  induction n using od.induct generalizing a t with
  | case1 => simp [od_zero] at h
  | case2 n hn ih =>
    rw [od_pos hn] at h
    cases hq : od (n / 256) with
    | nil =>
      have h0 : n / 256 = 0 := by
        by_cases e : n / 256 = 0
        · exact e
        · rw [od_pos e] at hq; simp at hq
      rw [hq] at h
      simp at h
      omega
    | cons x y =>
      rw [hq] at h
      simp at h
      obtain ⟨rfl, _⟩ := h
      exact ih hq
theorem od_at {n k : Nat} (h : k < (od n).length) : 256 ^ k ≤ n := by
  have := od_len k n
  omega
theorem od_step {n k : Nat} (h : k < (od n).length) : od (n / 256 ^ k) = od (n / 256 ^ (k + 1)) ++ [n / 256 ^ k % 256] := by
  have h1 := od_at h
  have hp : 0 < 256 ^ k := Nat.pow_pos (by decide)
  have : 0 < n / 256 ^ k := Nat.div_pos h1 hp
  rw [od_pos (by omega), Nat.div_div_eq_div_mul, Nat.pow_succ]
theorem od_top (n : Nat) : od (n / 256 ^ (od n).length) = [] := by
  have := (od_len (od n).length n).1 (Nat.le_refl _)
  rw [Nat.div_eq_of_lt this, od_zero]

/-- The number of some digits to the base 256. -/
def val (l : List Nat) : Nat := l.foldl (fun a b => a * 256 + b) 0
theorem val_snoc (l : List Nat) (b : Nat) : val (l ++ [b]) = val l * 256 + b := by simp [val]
theorem val_od (n : Nat) : val (od n) = n := by
  induction n using od.induct with
  | case1 => simp [od_zero, val]
  | case2 n h ih => rw [od_pos h, val_snoc, ih]; omega
theorem val_lt {l : List Nat} (h : ∀ b ∈ l, b < 256) : val l < 256 ^ l.length := by
  have : ∀ r : List Nat, (∀ b ∈ r.reverse, b < 256) → val r.reverse < 256 ^ r.reverse.length := by
    intro r
    induction r with
    | nil => intro _; simp [val]
    | cons b r ih =>
      intro hb
      simp only [List.reverse_cons] at hb ⊢
      rw [val_snoc, List.length_append, List.length_singleton, Nat.pow_succ]
      have h1 := ih fun x hx => hb x (List.mem_append_left _ hx)
      have h2 := hb b (by simp)
      omega
  have := this l.reverse
  rw [List.reverse_reverse] at this
  exact this h
theorem od_val {l : List Nat} (h : ∀ b ∈ l, b < 256) (h0 : ∀ a t, l = a :: t → a ≠ 0) : od (val l) = l := by
  have : ∀ r : List Nat, (∀ b ∈ r.reverse, b < 256) → (∀ a t, r.reverse = a :: t → a ≠ 0) → od (val r.reverse) = r.reverse := by
    intro r
    induction r with
    | nil => intro _ _; simp [val, od_zero]
    | cons b r ih =>
      intro hb ha
      simp only [List.reverse_cons] at hb ha ⊢
      have h2 := hb b (by simp)
      have e : od (val r.reverse) = r.reverse := ih (fun x hx => hb x (List.mem_append_left _ hx)) (fun a t ht => ha a (t ++ [b]) (by rw [ht]; rfl))
      rw [val_snoc]
      by_cases hr : r.reverse = []
      · rw [hr] at ha ⊢
        have hb0 := ha b [] rfl
        rw [show val ([] : List Nat) * 256 + b = b by simp [val], od_pos hb0, Nat.div_eq_of_lt h2, od_zero, Nat.mod_eq_of_lt h2]
      · have hv : val r.reverse ≠ 0 := fun e0 => by rw [e0, od_zero] at e; exact hr e.symm
        rw [od_pos (by omega), show (val r.reverse * 256 + b) / 256 = val r.reverse by omega, e, show (val r.reverse * 256 + b) % 256 = b by omega]
  have := this l.reverse
  rw [List.reverse_reverse] at this
  exact this h h0
theorem val_cons (x : Nat) (l : List Nat) : val (x :: l) = x * 256 ^ l.length + val l := by
  have : ∀ r : List Nat, val (x :: r.reverse) = x * 256 ^ r.reverse.length + val r.reverse := by
    intro r
    induction r with
    | nil => simp [val]
    | cons b r ih =>
      simp only [List.reverse_cons]
      rw [← List.cons_append, val_snoc, val_snoc, ih, List.length_append, List.length_singleton, Nat.pow_succ, Nat.add_mul, ← Nat.mul_assoc]
      omega
  have := this l.reverse
  rwa [List.reverse_reverse] at this

/-- A number's ordered bytes. -/
def ordd (n : Nat) : List Nat := (od n).length :: od n
theorem ordd_lt {n : Nat} (h : n < 18446744073709551616) : ∀ b ∈ ordd n, b < 256 := by
  intro b hb
  rcases List.mem_cons.1 hb with rfl | hb
  · have := od_len8 h; omega
  · exact od_lt n b hb
theorem ordd_len {n : Nat} (h : n < 18446744073709551616) : (ordd n).length ≤ 9 := by have := od_len8 h; simp [ordd]; omega

/-- A number's small bytes. -/
def sm (n : Nat) : List Nat := if _h : n ≤ 127 then [n] else (n % 128 + 128) :: sm (n / 128)
termination_by n
decreasing_by omega
theorem sm_last {n : Nat} (h : n ≤ 127) : sm n = [n] := by rw [sm, dif_pos h]
theorem sm_more {n : Nat} (h : ¬ n ≤ 127) : sm n = (n % 128 + 128) :: sm (n / 128) := by rw [sm, dif_neg h]
theorem sm_len (k : Nat) : ∀ n, (sm n).length ≤ k + 1 ↔ n < 128 ^ (k + 1) := by
  induction k with
  | zero =>
    intro n
    by_cases h : n ≤ 127
    · rw [sm_last h]; simp; omega
    · rw [sm_more h]
      have : 1 ≤ (sm (n / 128)).length := by rw [sm]; split <;> simp
      simp only [List.length_cons, Nat.zero_add, Nat.pow_one]; omega
  | succ k ih =>
    intro n
    by_cases h : n ≤ 127
    · rw [sm_last h]
      have : 128 ≤ 128 ^ (k + 1 + 1) := by rw [Nat.pow_succ]; have := Nat.pow_pos (n := k + 1) (show 0 < 128 by decide); omega
      simp; omega
    · rw [sm_more h, List.length_cons, Nat.add_le_add_iff_right, ih, Nat.pow_succ 128 (k + 1), Nat.div_lt_iff_lt_mul (by decide)]
theorem sm_len10 {n : Nat} (h : n < 18446744073709551616) : (sm n).length ≤ 10 := (sm_len 9 n).2 (Nat.lt_trans h (by decide))
theorem sm_len1 (n : Nat) : 1 ≤ (sm n).length := by rw [sm]; split <;> simp
theorem sm_lt (n : Nat) : ∀ b ∈ sm n, b < 256 := by
  induction n using sm.induct with
  | case1 n h => rw [sm_last h]; simp; omega
  | case2 n h ih =>
    rw [sm_more h]
    intro b hb
    rcases List.mem_cons.1 hb with rfl | hb
    · omega
    · exact ih b hb

/-- How many bytes: by a number's highest bit. -/
theorem size_ord {n : Nat} (h : n < 18446744073709551616) : 1 + (M.top n 64 + 8) / 8 = ((ordd n).length : Int) := by
  have h1 := M.top_in n 64
  obtain ⟨m, hm⟩ : ∃ m : Nat, (M.top n 64 + 8) / 8 = (m : Int) := ⟨((M.top n 64 + 8) / 8).toNat, by omega⟩
  have key : ∀ k : Nat, m ≤ k ↔ (od n).length ≤ k := by
    intro k
    rw [od_len]
    have ht := M.top_le n (8 * k) 64
    rw [Nat.mod_eq_of_lt h, Nat.pow_mul] at ht
    rw [← ht]
    omega
  have a := (key m).1 (Nat.le_refl _)
  have b := (key _).2 (Nat.le_refl _)
  rw [hm, ordd, List.length_cons]
  omega
theorem size_small {n : Nat} (h : n < 18446744073709551616) : 1 + max (M.top n 64) 0 / 7 = ((sm n).length : Int) := by
  have h1 := M.top_in n 64
  obtain ⟨m, hm⟩ : ∃ m : Nat, max (M.top n 64) 0 / 7 = (m : Int) := ⟨(max (M.top n 64) 0 / 7).toNat, by omega⟩
  have h2 := sm_len1 n
  have key : ∀ k : Nat, m ≤ k ↔ (sm n).length ≤ k + 1 := by
    intro k
    rw [sm_len]
    have ht := M.top_le n (7 * (k + 1)) 64
    rw [Nat.mod_eq_of_lt h, Nat.pow_mul] at ht
    rw [← ht]
    omega
  have a := (key m).1 (Nat.le_refl _)
  have b := (key ((sm n).length - 1)).2 (by omega)
  rw [hm]
  omega

/-- Numbers one behind the other. -/
def rowO (l : List Nat) : List Nat := l.flatMap ordd
def rowS (l : List Nat) : List Nat := l.flatMap sm
theorem rowO_nil : rowO [] = [] := rfl
theorem rowS_nil : rowS [] = [] := rfl
theorem rowO_cons (n : Nat) (l : List Nat) : rowO (n :: l) = ordd n ++ rowO l := rfl
theorem rowS_cons (n : Nat) (l : List Nat) : rowS (n :: l) = sm n ++ rowS l := rfl
theorem rowO_snoc (l : List Nat) (n : Nat) : rowO (l ++ [n]) = rowO l ++ ordd n := by simp [rowO]
theorem rowS_snoc (l : List Nat) (n : Nat) : rowS (l ++ [n]) = rowS l ++ sm n := by simp [rowS]
theorem rowO_len {l : List Nat} (h : ∀ n ∈ l, n < 18446744073709551616) : (rowO l).length ≤ 9 * l.length := by
  induction l with
  | nil => simp [rowO]
  | cons n l ih =>
    rw [rowO_cons, List.length_append, List.length_cons]
    have := ih fun x hx => h x (List.mem_cons_of_mem _ hx)
    have := ordd_len (h n (List.mem_cons_self ..))
    omega
theorem rowS_len {l : List Nat} (h : ∀ n ∈ l, n < 18446744073709551616) : (rowS l).length ≤ 10 * l.length := by
  induction l with
  | nil => simp [rowS]
  | cons n l ih =>
    rw [rowS_cons, List.length_append, List.length_cons]
    have := ih fun x hx => h x (List.mem_cons_of_mem _ hx)
    have := sm_len10 (h n (List.mem_cons_self ..))
    omega
theorem rowO_lt {l : List Nat} (h : ∀ n ∈ l, n < 18446744073709551616) : ∀ b ∈ rowO l, b < 256 := by
  intro b hb
  obtain ⟨n, hn, hb⟩ := List.mem_flatMap.1 hb
  exact ordd_lt (h n hn) b hb
theorem rowS_lt (l : List Nat) : ∀ b ∈ rowS l, b < 256 := by
  intro b hb
  obtain ⟨n, hn, hb⟩ := List.mem_flatMap.1 hb
  exact sm_lt n b hb

/-- What is read of ordered bytes: the number, how many bytes, the error. -/
def readO : List Nat → Nat × Nat × Nat
  | [] => (0, 0, 4)
  | k :: r => if 8 < k then (0, 0, 3) else if r.length < k then (0, 0, 4) else if 0 < k ∧ r.getD 0 0 = 0 then (0, 0, 3) else (val (r.take k), 1 + k, 0)
theorem readO_back {n : Nat} (h : n < 18446744073709551616) (r : List Nat) : readO (ordd n ++ r) = (n, (ordd n).length, 0) := by
  have h8 := od_len8 h
  rw [ordd, List.cons_append, readO, if_neg (by omega), if_neg (by simp), if_neg, List.take_left, val_od, List.length_cons, Nat.add_comm]
  rintro ⟨h1, h2⟩
  cases ho : od n with
  | nil => simp [ho] at h1
  | cons a t =>
    rw [ho] at h2
    exact od_head ho (by simpa using h2)
theorem readO_just {l : List Nat} (hl : ∀ b ∈ l, b < 256) {n k : Nat} (h : readO l = (n, k, 0)) : 1 ≤ k ∧ k ≤ l.length ∧ ordd n = l.take k := by
  match l, h with
  | [], h => simp [readO] at h
  | a :: r, h =>
    rw [readO] at h
    split at h
    · simp at h
    · split at h
      · simp at h
      · split at h
        · simp at h
        · rename_i h1 h2 h3
          simp only [Prod.mk.injEq] at h
          obtain ⟨rfl, rfl, _⟩ := h
          have e : od (val (r.take a)) = r.take a := by
            refine od_val (fun b hb => hl b (List.mem_cons_of_mem _ (List.mem_of_mem_take hb))) ?_
            rintro x t ht rfl
            apply h3
            have hp : 0 < a := by
              rcases Nat.eq_zero_or_pos a with h0 | h0
              · subst h0; simp at ht
              · exact h0
            refine ⟨hp, ?_⟩
            cases r with
            | nil => simp at ht
            | cons y s =>
              obtain ⟨j, rfl⟩ : ∃ j, a = j + 1 := ⟨a - 1, by omega⟩
              rw [List.take_succ_cons] at ht
              injection ht
          refine ⟨by omega, by simp; omega, ?_⟩
          rw [ordd, e, List.length_take, Nat.min_eq_left (by omega), Nat.add_comm 1 a, List.take_succ_cons]
theorem readO_bd {l : List Nat} (hl : ∀ b ∈ l, b < 256) : (readO l).1 < 18446744073709551616 ∧ (readO l).2.1 ≤ 9 ∧ (readO l).2.2 ≤ 4 := by
  cases l with
  | nil => simp [readO]
  | cons k r =>
    rw [readO]
    split
    · simp
    · split
      · simp
      · split
        · simp
        · rename_i h1 h2 h3
          refine ⟨?_, by simp; omega, by simp⟩
          have := val_lt (l := r.take k) fun b hb => hl b (List.mem_cons_of_mem _ (List.mem_of_mem_take hb))
          have h4 : 256 ^ (r.take k).length ≤ 256 ^ 8 := Nat.pow_le_pow_right (by decide) (by simp; omega)
          simp only
          omega

/-- What is read of small bytes from the place i on, where a has been read. -/
def rs : List Nat → Nat → Nat → Nat × Nat × Nat
  | [], _, _ => (0, 0, 4)
  | b :: t, i, a => if i = 9 ∧ 1 < b ∨ 0 < i ∧ b = 0 then (0, 0, 3) else if b < 128 then (a + b % 128 * 128 ^ i, i + 1, 0) else rs t (i + 1) (a + b % 128 * 128 ^ i)
def readS (l : List Nat) : Nat × Nat × Nat := rs l 0 0
theorem rs_back {m : Nat} (r : List Nat) : ∀ (i a : Nat), i ≤ 9 → m < 2 ^ (64 - 7 * i) → (0 < i → m ≠ 0) → rs (sm m ++ r) i a = (a + m * 128 ^ i, i + (sm m).length, 0) := by
  induction m using sm.induct with
  | case1 m h =>
    intro i a hi hm h0
    rw [sm_last h, List.singleton_append, rs, if_neg, if_pos (by omega), Nat.mod_eq_of_lt (by omega)]
    · simp
    · rintro (⟨rfl, h1⟩ | ⟨h1, rfl⟩)
      · simp at hm; omega
      · exact h0 h1 rfl
  | case2 m h ih =>
    intro i a hi hm h0
    have hi9 : i ≠ 9 := by
      rintro rfl
      simp at hm; omega
    have hp : 2 ^ (64 - 7 * i) = 2 ^ (64 - 7 * (i + 1)) * 128 := by rw [← Nat.pow_add 2 _ 7, show 64 - 7 * i = 64 - 7 * (i + 1) + 7 by omega]
    rw [sm_more h, List.cons_append, rs, if_neg (by omega), if_neg (by omega), ih (i + 1) _ (by omega) (by rw [hp] at hm; omega) (by omega)]
    have hb : (m % 128 + 128) % 128 = m % 128 := by omega
    have hs : m % 128 * 128 ^ i + m / 128 * 128 ^ (i + 1) = m * 128 ^ i := by
      rw [Nat.pow_succ, Nat.mul_comm (128 ^ i) 128, ← Nat.mul_assoc, ← Nat.add_mul]
      congr 1
      omega
    rw [hb, Nat.add_assoc, hs, List.length_cons]
    simp; omega
theorem readS_back {n : Nat} (h : n < 18446744073709551616) (r : List Nat) : readS (sm n ++ r) = (n, (sm n).length, 0) := by
  rw [readS, rs_back r 0 0 (by omega) (by simpa using h) (by omega)]
  simp
theorem rs_just {l : List Nat} : ∀ (i a n k : Nat), (∀ b ∈ l, b < 256) → rs l i a = (n, k, 0) → i + 1 ≤ k ∧ k ≤ i + l.length ∧ ∃ m, n = a + m * 128 ^ i ∧ sm m = l.take (k - i) ∧ (0 < i → m ≠ 0) := by
  induction l with
  | nil => intro i a n k _ h; simp [rs] at h
  | cons b t ih =>
    intro i a n k hl h
    have hb := hl b (List.mem_cons_self ..)
    rw [rs] at h
    split at h
    · simp at h
    · rename_i h1
      split at h
      · rename_i h2
        simp only [Prod.mk.injEq] at h
        obtain ⟨rfl, rfl, _⟩ := h
        refine ⟨by omega, by simp, b, by rw [Nat.mod_eq_of_lt h2], ?_, by omega⟩
        rw [sm_last (by omega), show i + 1 - i = 1 by omega]; rfl
      · rename_i h2
        obtain ⟨e1, e2, m, e3, e4, e5⟩ := ih (i + 1) _ n k (fun x hx => hl x (List.mem_cons_of_mem _ hx)) h
        have hm := e5 (by omega)
        refine ⟨by omega, by simp; omega, b % 128 + 128 * m, ?_, ?_, by omega⟩
        · rw [e3, Nat.pow_succ, Nat.add_mul, Nat.add_assoc, Nat.mul_comm (128 ^ i) 128, ← Nat.mul_assoc m, Nat.mul_comm m 128]
        · rw [sm_more (by omega), show (b % 128 + 128 * m) / 128 = m by omega, e4, show k - i = (k - (i + 1)) + 1 by omega, List.take_succ_cons, show (b % 128 + 128 * m) % 128 + 128 = b by omega]
theorem readS_just {l : List Nat} (hl : ∀ b ∈ l, b < 256) {n k : Nat} (h : readS l = (n, k, 0)) : 1 ≤ k ∧ k ≤ l.length ∧ sm n = l.take k := by
  obtain ⟨e1, e2, m, e3, e4, _⟩ := rs_just 0 0 n k hl h
  simp at e3
  subst e3
  exact ⟨by omega, by omega, by simpa using e4⟩

theorem rs_bd {l : List Nat} : ∀ (i a n k e : Nat), i ≤ 9 → a < 128 ^ i → (∀ b ∈ l, b < 256) → rs l i a = (n, k, e) → n < 18446744073709551616 := by
  induction l with
  | nil => intro i a n k e _ _ _ h; simp [rs] at h; omega
  | cons b t ih =>
    intro i a n k e hi ha hl h
    have hb := hl b (List.mem_cons_self ..)
    rw [rs] at h
    split at h
    · simp at h; omega
    · rename_i h1
      split at h
      · rename_i h2
        simp only [Prod.mk.injEq] at h
        obtain ⟨rfl, _⟩ := h
        by_cases h9 : i = 9
        · subst h9
          have : b ≤ 1 := by omega
          have : b % 128 * 128 ^ 9 ≤ 1 * 128 ^ 9 := Nat.mul_le_mul_right _ (by omega)
          omega
        · have h3 : 128 ^ i ≤ 128 ^ 8 := Nat.pow_le_pow_right (by decide) (by omega)
          have : b % 128 * 128 ^ i ≤ 127 * 128 ^ 8 := Nat.mul_le_mul (by omega) h3
          omega
      · rename_i h2
        have hi9 : i ≠ 9 := by omega
        refine ih (i + 1) _ n k e (by omega) ?_ (fun x hx => hl x (List.mem_cons_of_mem _ hx)) h
        have : b % 128 * 128 ^ i ≤ 127 * 128 ^ i := Nat.mul_le_mul_right _ (by omega)
        rw [Nat.pow_succ]
        omega
theorem readS_bd {l : List Nat} (hl : ∀ b ∈ l, b < 256) {n k e : Nat} (h : readS l = (n, k, e)) : n < 18446744073709551616 := rs_bd 0 0 n k e (by omega) (by decide) hl h

/-- Which bytes come first. -/
def cmp : List Nat → List Nat → Int
  | [], [] => 0
  | [], _ :: _ => -1
  | _ :: _, [] => 1
  | x :: a, y :: b => if x = y then cmp a b else if x < y then -1 else 1
theorem cmp_nil_l : ∀ b, cmp [] b = if b = [] then 0 else -1
  | [] => rfl
  | _ :: _ => rfl
theorem cmp_nil_r : ∀ a, cmp a [] = if a = [] then 0 else 1
  | [] => rfl
  | _ :: _ => rfl
theorem cmp_self : ∀ a, cmp a a = 0
  | [] => rfl
  | x :: a => by rw [cmp, if_pos rfl, cmp_self a]
theorem cmp_neg : ∀ a b, cmp b a = - cmp a b
  | [], [] => rfl
  | [], _ :: _ => rfl
  | _ :: _, [] => rfl
  | x :: a, y :: b => by
    rw [cmp, cmp]
    by_cases h : x = y
    · subst h; rw [if_pos rfl, if_pos rfl, cmp_neg a b]
    · rw [if_neg h, if_neg (Ne.symm h)]
      split <;> split <;> omega
theorem cmp_in : ∀ a b, cmp a b = -1 ∨ cmp a b = 0 ∨ cmp a b = 1
  | [], [] => .inr (.inl rfl)
  | [], _ :: _ => .inl rfl
  | _ :: _, [] => .inr (.inr rfl)
  | x :: a, y :: b => by
    rw [cmp]
    split
    · exact cmp_in a b
    · split <;> simp
theorem cmp_zero : ∀ a b, cmp a b = 0 ↔ a = b
  | [], [] => by simp [cmp]
  | [], _ :: _ => by simp [cmp]
  | _ :: _, [] => by simp [cmp]
  | x :: a, y :: b => by
    rw [cmp]
    split
    · rename_i h; subst h; rw [cmp_zero a b]; simp
    · rename_i h
      have : x :: a ≠ y :: b := fun e => h (by injection e)
      split <;> simp [this]
def less (a b : List Nat) : Bool := decide (cmp a b = -1)
def same (a b : List Nat) : Bool := !less a b && !less b a
theorem same_iff (a b : List Nat) : same a b = decide (a = b) := by
  unfold same less
  rw [cmp_neg a b]
  rcases cmp_in a b with h | h | h
  · have := cmp_zero a b
    rw [h] at this ⊢
    simp at this ⊢
    exact this
  · have := (cmp_zero a b).1 h
    subst this
    simp [h]
  · have := cmp_zero a b
    rw [h] at this ⊢
    simp at this ⊢
    exact this
theorem same_self (a : List Nat) : same a a = true := by rw [same_iff]; simp

theorem cmp_digits : ∀ (l m r s : List Nat), l.length = m.length → (∀ b ∈ l, b < 256) → (∀ b ∈ m, b < 256) → cmp (l ++ r) (m ++ s) = if val l < val m then -1 else if val l = val m then cmp r s else 1
  | [], [], r, s, _, _, _ => by simp [val]
  | x :: l, y :: m, r, s, h, hl, hm => by
    simp at h
    have ih := cmp_digits l m r s h (fun b hb => hl b (List.mem_cons_of_mem _ hb)) (fun b hb => hm b (List.mem_cons_of_mem _ hb))
    have v1 := val_lt (l := l) fun b hb => hl b (List.mem_cons_of_mem _ hb)
    have v2 := val_lt (l := m) fun b hb => hm b (List.mem_cons_of_mem _ hb)
    rw [List.cons_append, List.cons_append, cmp, ih, val_cons, val_cons, h]
    rw [h] at v1
    generalize 256 ^ m.length = p at *
    by_cases e : x = y
    · subst e; simp
    · rw [if_neg e]
      by_cases e2 : x < y
      · have : x * p + p ≤ y * p := by rw [← Nat.succ_mul]; exact Nat.mul_le_mul_right _ e2
        rw [if_pos e2, if_pos (by omega)]
      · have : y * p + p ≤ x * p := by rw [← Nat.succ_mul]; exact Nat.mul_le_mul_right _ (by omega)
        rw [if_neg e2, if_neg (by omega), if_neg (by omega)]
theorem len_lt {a b : Nat} (h : (od a).length < (od b).length) : a < b := by
  have h1 := (od_len (od a).length a).1 (Nat.le_refl _)
  have h2 := od_at h
  omega
theorem cmp_ordd (a b : Nat) (r s : List Nat) : cmp (ordd a ++ r) (ordd b ++ s) = if a < b then -1 else if a = b then cmp r s else 1 := by
  rw [ordd, ordd, List.cons_append, List.cons_append, cmp]
  by_cases h : (od a).length = (od b).length
  · rw [if_pos h, cmp_digits _ _ _ _ h (od_lt a) (od_lt b), val_od, val_od]
  · rw [if_neg h]
    by_cases h2 : (od a).length < (od b).length
    · rw [if_pos h2, if_pos (len_lt h2)]
    · have := len_lt (a := b) (b := a) (by omega)
      rw [if_neg h2, if_neg (by omega), if_neg (by omega)]
theorem cmp_ord (a b : Nat) : cmp (ordd a) (ordd b) = if a < b then -1 else if a = b then 0 else 1 := by
  have := cmp_ordd a b [] []
  simpa [cmp] using this
theorem cmp_rows : ∀ l m : List Nat, l.length = m.length → cmp (rowO l) (rowO m) = cmp l m
  | [], [], _ => rfl
  | x :: l, y :: m, h => by
    simp at h
    rw [rowO_cons, rowO_cons, cmp_ordd, cmp, cmp_rows l m h]
    by_cases e : x = y
    · subst e; simp
    · simp [e]
theorem not_begin {a b : Nat} (h : (ordd a).length < (ordd b).length) : same (ordd a) ((ordd b).take (ordd a).length) = false := by
  rw [same_iff]
  simp [ordd] at h ⊢
  omega
end D
end Go.Proofs.Ytcnbdfobhablbaa
