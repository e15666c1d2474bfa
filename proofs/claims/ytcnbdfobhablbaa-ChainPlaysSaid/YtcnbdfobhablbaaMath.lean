/-
  Plain mathematics of words of 64 bits, as natural numbers by their bits. Nothing here speaks of the program.
-/
namespace Go.Proofs.Ytcnbdfobhablbaa.M

/-- The word of some bits, the lowest first. -/
def wd : Nat → (Nat → Bool) → Nat
  | 0, _ => 0
  | n + 1, f => (f 0).toNat + 2 * wd n (fun k => f (k + 1))

theorem testBit_cons (b : Bool) (x i : Nat) : (b.toNat + 2 * x).testBit i = if i = 0 then b else x.testBit (i - 1) := by
  cases i with
  | zero => cases b <;> simp [Nat.testBit_zero] <;> omega
  | succ j =>
    simp only [Nat.testBit_succ, Nat.add_one_ne_zero, if_false, Nat.add_sub_cancel]
    have : (b.toNat + 2 * x) / 2 = x := by cases b <;> simp <;> omega
    rw [this]

theorem testBit_wd (n : Nat) : ∀ (f : Nat → Bool) (i : Nat), (wd n f).testBit i = (decide (i < n) && f i) := by
  induction n with
  | zero => intro f i; simp [wd]
  | succ n ih =>
    intro f i
    rw [wd, testBit_cons]
    cases i with
    | zero => simp
    | succ j => simp [ih]

theorem wd_lt (n : Nat) : ∀ f : Nat → Bool, wd n f < 2 ^ n := by
  induction n with
  | zero => intro f; simp [wd]
  | succ n ih =>
    intro f
    have h := ih (fun k => f (k + 1))
    rw [wd, Nat.pow_succ]
    have : (f 0).toNat ≤ 1 := by cases f 0 <;> simp
    omega

theorem wd_lt64 (f : Nat → Bool) : wd 64 f < 18446744073709551616 := wd_lt 64 f

theorem testBit_big {x i : Nat} (h : x < 18446744073709551616) (hi : 64 ≤ i) : x.testBit i = false :=
  Nat.testBit_lt_two_pow (Nat.lt_of_lt_of_le h (Nat.pow_le_pow_right (by decide) hi : 2 ^ 64 ≤ 2 ^ i))

/-- A word is the word of its bits. -/
theorem wd_of {x : Nat} {f : Nat → Bool} (h : x < 18446744073709551616) (hf : ∀ i, i < 64 → x.testBit i = f i) : wd 64 f = x := by
  apply Nat.eq_of_testBit_eq
  intro i
  rw [testBit_wd]
  by_cases hi : i < 64
  · simp [hi, hf i hi]
  · have hb := testBit_big h (Nat.le_of_not_lt hi)
    simp [hi, hb]

theorem wd_congr {f g : Nat → Bool} (h : ∀ i, i < 64 → f i = g i) : wd 64 f = wd 64 g :=
  wd_of (wd_lt64 g) fun i hi => by rw [testBit_wd, h i hi]; simp [hi]

/-- One bit more, at the low end. -/
theorem wd_step (f : Nat → Bool) (i : Nat) : wd (64 - i) (fun k => f (i + k)) = if i < 64 then (f i).toNat + 2 * wd (63 - i) (fun k => f (i + 1 + k)) else 0 := by
  split
  · rename_i h
    obtain ⟨m, hm⟩ : ∃ m, 64 - i = m + 1 := ⟨63 - i, by omega⟩
    rw [hm, wd]
    have e : 63 - i = m := by omega
    rw [e]
    have e2 : (fun k => f (i + (k + 1))) = fun k => f (i + 1 + k) := by funext k; congr 1; omega
    rw [e2]; rfl
  · rename_i h
    rw [show 64 - i = 0 by omega]; rfl

def low (n : Int) : Nat := 2 ^ (min n.toNat 64) - 1
theorem testBit_low (n : Int) (i : Nat) : (low n).testBit i = (decide (i < 64) && decide ((i : Int) < n)) := by
  unfold low
  rw [Nat.testBit_two_pow_sub_one]
  have : (i < min n.toNat 64) ↔ (i < 64 ∧ (i : Int) < n) := by omega
  rw [Bool.eq_iff_iff]; simp [this]
theorem low_lt (n : Int) : low n < 18446744073709551616 := by
  unfold low
  have : 2 ^ (min n.toNat 64) ≤ 2 ^ 64 := Nat.pow_le_pow_right (by decide) (by omega)
  omega
theorem low_wd (n : Int) : wd 64 (fun i => decide ((i : Int) < n)) = low n :=
  wd_of (low_lt n) fun i hi => by rw [testBit_low]; simp [hi]

def thereB (lo n : Int) : Bool := decide (0 ≤ lo ∧ 0 ≤ n ∧ n ≤ 64 ∧ lo ≤ 64 - n)
theorem there_iff {lo n : Int} : thereB lo n = true ↔ 0 ≤ lo ∧ 0 ≤ n ∧ n ≤ 64 ∧ lo ≤ 64 - n := by simp [thereB]
theorem there_not {lo n : Int} : thereB lo n = false ↔ ¬ (0 ≤ lo ∧ 0 ≤ n ∧ n ≤ 64 ∧ lo ≤ 64 - n) := by simp [thereB]

def getF (w : Nat) (lo n : Int) (i : Nat) : Bool := thereB lo n && decide ((i : Int) < n) && w.testBit (lo.toNat + i)
def get (w : Nat) (lo n : Int) : Nat := wd 64 (getF w lo n)
theorem get_lt (w : Nat) (lo n : Int) : get w lo n < 18446744073709551616 := wd_lt64 _
theorem testBit_get (w : Nat) (lo n : Int) (i : Nat) : (get w lo n).testBit i = (decide (i < 64) && (thereB lo n && decide ((i : Int) < n) && w.testBit (lo.toNat + i))) := by
  unfold get; rw [testBit_wd]; rfl
theorem get_none {w : Nat} {lo n : Int} (h : thereB lo n = false) : get w lo n = 0 :=
  wd_of (by decide) fun i _ => by simp [getF, h]
theorem get_some {w : Nat} {lo n : Int} (h : thereB lo n = true) : (w / 2 ^ lo.toNat) &&& low n = get w lo n := by
  apply Nat.eq_of_testBit_eq
  intro i
  have h' := there_iff.1 h
  rw [Nat.testBit_and, Nat.testBit_div_two_pow, testBit_low, testBit_get, h, Nat.add_comm i]
  by_cases hi : i < 64 <;> by_cases hn : (i : Int) < n <;> simp [hi, hn]

def putF (w : Nat) (lo n : Int) (v : Nat) (i : Nat) : Bool := if thereB lo n && decide (lo ≤ i) && decide ((i : Int) < lo + n) then v.testBit (i - lo.toNat) else w.testBit i
def put (w : Nat) (lo n : Int) (v : Nat) : Nat := wd 64 (putF w lo n v)
theorem put_lt (w : Nat) (lo n : Int) (v : Nat) : put w lo n v < 18446744073709551616 := wd_lt64 _
theorem testBit_put (w : Nat) (lo n : Int) (v i : Nat) : (put w lo n v).testBit i = (decide (i < 64) && putF w lo n v i) := by
  unfold put; rw [testBit_wd]
theorem put_none {w : Nat} {lo n : Int} {v : Nat} (hw : w < 18446744073709551616) (h : thereB lo n = false) : put w lo n v = w :=
  wd_of hw fun i _ => by simp [putF, h]
theorem put_some {w : Nat} {lo n : Int} {v : Nat} (hw : w < 18446744073709551616) (h : thereB lo n = true) :
    (w &&& (18446744073709551615 - (low n * 2 ^ lo.toNat % 18446744073709551616))) ||| ((v * 2 ^ lo.toNat % 18446744073709551616) &&& (low n * 2 ^ lo.toNat % 18446744073709551616)) = put w lo n v := by
  have h' := there_iff.1 h
  have e64 : (18446744073709551616 : Nat) = 2 ^ 64 := rfl
  have e1 : ∀ y : Nat, y < 18446744073709551616 → ∀ i, (18446744073709551615 - y).testBit i = (decide (i < 64) && !y.testBit i) := by
    intro y hy i
    have := Nat.testBit_two_pow_sub_succ (x := y) (n := 64) hy i
    rw [show 2 ^ 64 - (y + 1) = 18446744073709551615 - y by omega] at this
    exact this
  apply Nat.eq_of_testBit_eq
  intro i
  rw [Nat.testBit_or, Nat.testBit_and, Nat.testBit_and, e1 _ (Nat.mod_lt _ (by decide)), testBit_put, e64, Nat.testBit_mod_two_pow, Nat.testBit_mod_two_pow, Nat.mul_comm (low n), Nat.mul_comm v,
    Nat.testBit_two_pow_mul, Nat.testBit_two_pow_mul, testBit_low]
  unfold putF
  rw [h]
  by_cases hi : i < 64
  · by_cases hl : lo.toNat ≤ i
    · have hl2 : lo ≤ i := by omega
      have e2 : (i - lo.toNat < 64) := by omega
      have e3 : (((i - lo.toNat : Nat) : Int) < n) ↔ ((i : Int) < lo + n) := by omega
      by_cases hn : (i : Int) < lo + n <;> simp [hi, hl, hl2, e2, e3, hn]
    · have hl2 : ¬ lo ≤ i := by omega
      simp [hi, hl, hl2]
  · simp [hi, testBit_big hw (by omega : 64 ≤ i)]

/-! Back: what is put into a field is got from there. -/
theorem get_put {w v lo n : Nat} (h : lo + n ≤ 64) : get (put w lo n v) lo n = get v 0 n := by
  have t1 : thereB (lo : Int) (n : Int) = true := there_iff.2 (by omega)
  have t2 : thereB 0 (n : Int) = true := there_iff.2 (by omega)
  apply wd_congr
  intro i hi
  unfold getF
  rw [t1, t2, testBit_put]
  unfold putF
  rw [t1]
  by_cases hn : (i : Int) < n
  · have : lo + i < 64 := by omega
    have e1 : (lo : Int) ≤ ((lo + i : Nat) : Int) := by omega
    have e2 : ((lo + i : Nat) : Int) < lo + n := by omega
    simp only [Int.toNat_natCast, this, e1, e2, hn, decide_true, Bool.and_true, Bool.true_and, if_true, Int.toNat_zero, Nat.zero_add]
    congr 1; omega
  · simp [hn]
theorem get_put_low {w v lo n : Nat} (h : lo + n ≤ 64) : get (put w lo n v) 0 lo = get w 0 lo := by
  have t1 : thereB 0 (lo : Int) = true := there_iff.2 (by omega)
  apply wd_congr
  intro i hi
  unfold getF
  rw [t1, testBit_put]
  unfold putF
  by_cases hn : (i : Int) < lo
  · have e : ¬ ((lo : Int) ≤ (i : Int)) := by omega
    simp [hn, e, hi]
  · simp [hn]
theorem get_put_high {w v lo n : Nat} (h : lo + n ≤ 64) : get (put w lo n v) ((lo + n : Nat) : Int) ((64 - lo - n : Nat) : Int) = get w ((lo + n : Nat) : Int) ((64 - lo - n : Nat) : Int) := by
  apply wd_congr
  intro i hi
  unfold getF
  rw [testBit_put]
  unfold putF
  by_cases hn : (i : Int) < ((64 - lo - n : Nat) : Int)
  · have e : ¬ (((lo + n + i : Nat) : Int) < (lo : Int) + (n : Int)) := by omega
    have e2 : lo + n + i < 64 := by omega
    simp only [Int.toNat_natCast, e, e2, decide_false, Bool.and_false, decide_true, Bool.true_and]
    rfl
  · simp [hn]
theorem put_back {w v lo n : Nat} (hw : w < 18446744073709551616) (h : lo + n ≤ 64) : put (put w lo n v) lo n (get w lo n) = w := by
  have t1 : thereB (lo : Int) (n : Int) = true := there_iff.2 (by omega)
  apply wd_of hw
  intro i hi
  unfold putF
  rw [testBit_get, testBit_put, t1]
  unfold putF
  rw [t1]
  by_cases h1 : lo ≤ i <;> by_cases h2 : i < lo + n
  · have e1 : (lo : Int) ≤ (i : Int) := by omega
    have e2 : (i : Int) < lo + n := by omega
    have e3 : i - lo < 64 := by omega
    have e4 : ((i - lo : Nat) : Int) < n := by omega
    have e5 : lo + (i - lo) = i := by omega
    simp [e1, e2, e3, e4, e5]
  · have e2 : ¬ (i : Int) < lo + n := by omega
    simp [e2, hi]
  · have e1 : ¬ (lo : Int) ≤ (i : Int) := by omega
    simp [e1, hi]
  · have e1 : ¬ (lo : Int) ≤ (i : Int) := by omega
    simp [e1, hi]

theorem get_mod {w m : Nat} (hm : m ≤ 64) : get w 0 (m : Int) = w % 2 ^ m := by
  apply wd_of
  · exact Nat.lt_of_lt_of_le (Nat.mod_lt _ (Nat.two_pow_pos m)) (Nat.pow_le_pow_right (by decide) hm : 2 ^ m ≤ 2 ^ 64)
  · intro i _
    unfold getF
    rw [there_iff.2 (by omega), Nat.testBit_mod_two_pow]
    have e : ((i : Int) < m) ↔ (i < m) := by omega
    simp [e]

/-! Signed numbers. -/
def zig (a : Int) : Nat := if 0 ≤ a then 2 * a.toNat else 2 * (-(a + 1)).toNat + 1
def zag (w : Nat) : Int := if w % 2 = 1 then -((w / 2 : Nat) : Int) - 1 else ((w / 2 : Nat) : Int)
theorem zig_lt {a : Int} (h1 : -9223372036854775808 ≤ a) (h2 : a ≤ 9223372036854775807) : zig a < 18446744073709551616 := by unfold zig; split <;> omega
theorem zag_in {w : Nat} (h : w < 18446744073709551616) : -9223372036854775808 ≤ zag w ∧ zag w ≤ 9223372036854775807 := by unfold zag; split <;> omega
theorem zag_zig (a : Int) : zag (zig a) = a := by unfold zig zag; split <;> split <;> omega
theorem zig_zag (w : Nat) : zig (zag w) = w := by unfold zig zag; split <;> split <;> omega
theorem zig_inj {a b : Int} : zig a = zig b ↔ a = b := ⟨fun h => by rw [← zag_zig a, h, zag_zig], fun h => by rw [h]⟩
def flip (a : Int) : Nat := (a + 9223372036854775808).toNat
def unflip (w : Nat) : Int := (w : Int) - 9223372036854775808
theorem flip_lt {a : Int} (h2 : a ≤ 9223372036854775807) : flip a < 18446744073709551616 := by unfold flip; omega
theorem unflip_in {w : Nat} (h : w < 18446744073709551616) : -9223372036854775808 ≤ unflip w ∧ unflip w ≤ 9223372036854775807 := by unfold unflip; omega
theorem unflip_flip {a : Int} (h1 : -9223372036854775808 ≤ a) : unflip (flip a) = a := by unfold flip unflip; omega
theorem flip_unflip (w : Nat) : flip (unflip w) = w := by unfold flip unflip; omega

/-- w's lowest n bits as a signed number. -/
def sign (w : Nat) (n : Int) : Int :=
  if n < 1 then 0 else
    ((w % 2 ^ (min n.toNat 64 - 1) : Nat) : Int) - if w.testBit (min n.toNat 64 - 1) then ((2 ^ (min n.toNat 64 - 1) : Nat) : Int) else 0

theorem mod_succ (w m : Nat) : w % 2 ^ (m + 1) = w % 2 ^ m + if w.testBit m then 2 ^ m else 0 := by
  rw [Nat.pow_succ, Nat.mod_mul, Nat.testBit_eq_decide_div_mod_eq]
  have h2 : w / 2 ^ m % 2 = 0 ∨ w / 2 ^ m % 2 = 1 := by omega
  rcases h2 with h2 | h2 <;> simp [h2]

theorem sign_pos (w m : Nat) (hm : m < 64) : sign w ((m + 1 : Nat) : Int) = if w % 2 ^ (m + 1) < 2 ^ m then ((w % 2 ^ (m + 1) : Nat) : Int) else ((w % 2 ^ (m + 1) : Nat) : Int) - ((2 ^ (m + 1) : Nat) : Int) := by
  unfold sign
  have e : min ((m + 1 : Nat) : Int).toNat 64 - 1 = m := by omega
  rw [if_neg (by omega), e, mod_succ]
  have hlt : w % 2 ^ m < 2 ^ m := Nat.mod_lt _ (Nat.two_pow_pos m)
  rw [Nat.pow_succ]
  generalize w % 2 ^ m = r at *
  generalize 2 ^ m = p at *
  cases w.testBit m
  · simp only [Bool.false_eq_true, if_false]; rw [if_pos (by omega)]; omega
  · simp only [if_true]; rw [if_neg (by omega)]; omega

/-- The shift to the top and back. -/
theorem shl_mod (x n : Nat) (hn : n ≤ 64) : x * 2 ^ (64 - n) % 18446744073709551616 = x % 2 ^ n * 2 ^ (64 - n) := by
  have e : (18446744073709551616 : Nat) = 2 ^ n * 2 ^ (64 - n) := by rw [← Nat.pow_add, show n + (64 - n) = 64 by omega]
  rw [e, Nat.mul_mod_mul_right]
theorem sign_shift (x m : Nat) (hm : m < 63) (y : Int)
    (hy : y = if x % 2 ^ (m + 1) * 2 ^ (64 - (m + 1)) < 9223372036854775808 then ((x % 2 ^ (m + 1) * 2 ^ (64 - (m + 1)) : Nat) : Int) else ((x % 2 ^ (m + 1) * 2 ^ (64 - (m + 1)) : Nat) : Int) - 18446744073709551616) :
    y / ((2 ^ (64 - (m + 1)) : Nat) : Int) = sign x ((m + 1 : Nat) : Int) := by
  rw [sign_pos x m (by omega), hy]
  clear hy
  have e1 : 2 ^ m * 2 ^ (64 - (m + 1)) = 9223372036854775808 := by rw [← Nat.pow_add, show m + (64 - (m + 1)) = 63 by omega]
  have e2 : 2 ^ (m + 1) * 2 ^ (64 - (m + 1)) = 18446744073709551616 := by rw [← Nat.pow_add, show m + 1 + (64 - (m + 1)) = 64 by omega]
  have hp : 0 < 2 ^ (64 - (m + 1)) := Nat.two_pow_pos _
  generalize x % 2 ^ (m + 1) = r at *
  generalize 2 ^ (64 - (m + 1)) = p at *
  generalize 2 ^ (m + 1) = q at *
  generalize 2 ^ m = q' at *
  have hc : r * p < 9223372036854775808 ↔ r < q' := by rw [← e1]; exact Nat.mul_lt_mul_right hp
  by_cases h : r < q'
  · rw [if_pos (hc.2 h), if_pos h, Int.natCast_mul, Int.mul_ediv_cancel _ (by omega)]
  · rw [if_neg (fun hh => h (hc.1 hh)), if_neg h]
    have e3 : ((r * p : Nat) : Int) - 18446744073709551616 = ((r : Int) - (q : Int)) * (p : Int) := by
      rw [Int.sub_mul, ← Int.natCast_mul, ← Int.natCast_mul, e2]
      rfl
    rw [e3, Int.mul_ediv_cancel _ (by omega)]
theorem sign_all (x : Nat) (n : Int) (hx : x < 18446744073709551616) (hn : 64 ≤ n) : sign x n = if x < 9223372036854775808 then (x : Int) else (x : Int) - 18446744073709551616 := by
  have h := sign_pos x 63 (by decide)
  have e : sign x n = sign x ((63 + 1 : Nat) : Int) := by
    have e0 : ¬ n < 1 := by omega
    have e1 : ¬ ((63 + 1 : Nat) : Int) < 1 := by omega
    have e2 : min n.toNat 64 = 64 := by omega
    have e3 : min ((63 + 1 : Nat) : Int).toNat 64 = 64 := by omega
    simp only [sign, e0, e1, e2, e3, if_false]
  rw [e, h, Nat.mod_eq_of_lt (by exact hx : x < 2 ^ (63 + 1))]
  rfl

/-! Turned words. -/
def turn (w k : Nat) : Nat := wd 64 (fun i => w.testBit ((i + 64 - k) % 64))
theorem turn_lt (w k : Nat) : turn w k < 18446744073709551616 := wd_lt64 _
theorem turn_back {w k : Nat} (hw : w < 18446744073709551616) (hk : k < 64) : turn (turn w k) ((64 - k) % 64) = w := by
  apply wd_of hw
  intro i hi
  unfold turn
  rw [testBit_wd]
  have h1 : (i + 64 - (64 - k) % 64) % 64 < 64 := Nat.mod_lt _ (by decide)
  have h2 : ((i + 64 - (64 - k) % 64) % 64 + 64 - k) % 64 = i := by omega
  simp [h1, h2]
theorem turn_shift {w k : Nat} (hw : w < 18446744073709551616) (hk : k < 64) :
    (w * 2 ^ k % 18446744073709551616) ||| (w / 2 ^ (64 - k)) = turn w k := by
  symm
  apply wd_of
  · rw [show (18446744073709551616 : Nat) = 2 ^ 64 from rfl]
    apply Nat.or_lt_two_pow
    · exact Nat.mod_lt _ (by decide)
    · exact Nat.lt_of_le_of_lt (Nat.div_le_self _ _) hw
  · intro i hi
    rw [Nat.testBit_or, show (18446744073709551616 : Nat) = 2 ^ 64 from rfl, Nat.testBit_mod_two_pow, Nat.mul_comm, Nat.testBit_two_pow_mul, Nat.testBit_div_two_pow]
    by_cases hik : k ≤ i
    · have e1 : (i + 64 - k) % 64 = i - k := by omega
      by_cases hk0 : k = 0
      · subst hk0
        have := testBit_big hw (by omega : 64 ≤ i + (64 - 0))
        simp [hi, this, Nat.mod_eq_of_lt hi]
      · have := testBit_big hw (by omega : 64 ≤ i + (64 - k))
        simp [hi, hik, this, e1]
    · have e1 : (i + 64 - k) % 64 = i + (64 - k) := by omega
      simp [hik, e1]
def swap (w : Nat) : Nat := wd 64 (fun i => w.testBit (56 - i / 8 * 8 + i % 8))
theorem swap_lt (w : Nat) : swap w < 18446744073709551616 := wd_lt64 _
theorem swap_swap {w : Nat} (hw : w < 18446744073709551616) : swap (swap w) = w := by
  apply wd_of hw
  intro i hi
  unfold swap
  rw [testBit_wd]
  have h1 : 56 - i / 8 * 8 + i % 8 < 64 := by omega
  have h2 : 56 - (56 - i / 8 * 8 + i % 8) / 8 * 8 + (56 - i / 8 * 8 + i % 8) % 8 = i := by omega
  simp only [h1, h2, decide_true, Bool.true_and]

/-- The bytes that were turned so far. -/
def sw (w : Nat) : Nat → Nat
  | 0 => 0
  | k + 1 => (sw w k * 2 ^ 8 % 18446744073709551616) ||| get w ((8 * k : Nat) : Int) 8
theorem testBit_sw (w k : Nat) (hk : k ≤ 8) (i : Nat) : (sw w k).testBit i = (decide (i < 8 * k) && w.testBit (8 * (k - 1 - i / 8) + i % 8)) := by
  induction k generalizing i with
  | zero => simp [sw]
  | succ k ih =>
    have t1 : thereB ((8 * k : Nat) : Int) 8 = true := there_iff.2 (by omega)
    rw [sw, Nat.testBit_or, show (18446744073709551616 : Nat) = 2 ^ 64 from rfl, Nat.testBit_mod_two_pow, Nat.mul_comm, Nat.testBit_two_pow_mul, ih (by omega), testBit_get, t1]
    by_cases h8 : i < 8
    · have e1 : ¬ 8 ≤ i := by omega
      have e2 : i < 64 := by omega
      have e3 : i < 8 * (k + 1) := by omega
      have e4 : (i : Int) < 8 := by omega
      have e5 : 8 * (k + 1 - 1 - i / 8) + i % 8 = 8 * k + i := by omega
      rw [e5]
      simp [e1, e2, e3, e4]
      congr 1
    · have e1 : 8 ≤ i := by omega
      have e4 : ¬ (i : Int) < 8 := by omega
      have e5 : 8 * (k + 1 - 1 - i / 8) + i % 8 = 8 * (k - 1 - (i - 8) / 8) + (i - 8) % 8 := by omega
      have e6 : (i < 64 ∧ i - 8 < 8 * k) ↔ i < 8 * (k + 1) := by omega
      rw [e5]
      by_cases e7 : i < 8 * (k + 1)
      · have := e6.2 e7
        simp [e1, e4, e7, this.1, this.2]
      · by_cases e8 : i < 64
        · have : ¬ i - 8 < 8 * k := by omega
          simp [e1, e4, e7, e8, this]
        · simp [e4, e7, e8]
theorem sw_lt (w k : Nat) (hk : k ≤ 8) : sw w k < 18446744073709551616 := by
  cases k with
  | zero => exact Nat.two_pow_pos 64
  | succ k => exact Nat.or_lt_two_pow (n := 64) (Nat.mod_lt _ (by decide)) (get_lt _ _ _)
theorem sw_swap (w : Nat) : sw w 8 = swap w := by
  symm
  apply wd_of (sw_lt w 8 (by decide))
  intro i hi
  rw [testBit_sw w 8 (by decide)]
  have e : 8 * (8 - 1 - i / 8) + i % 8 = 56 - i / 8 * 8 + i % 8 := by omega
  have e2 : i < 8 * 8 := by omega
  rw [e]; simp [e2]

/-! How many ones; the highest; the lowest. -/
def cnt (f : Nat → Bool) : Nat → Nat
  | 0 => 0
  | n + 1 => cnt f n + (f n).toNat
theorem cnt_le (f : Nat → Bool) (n : Nat) : cnt f n ≤ n := by
  induction n with
  | zero => simp [cnt]
  | succ n ih => rw [cnt]; cases f n <;> simp <;> omega
theorem cnt_add (f : Nat → Bool) (a b : Nat) : cnt f (a + b) = cnt f a + cnt (fun i => f (a + i)) b := by
  induction b with
  | zero => simp [cnt]
  | succ b ih => rw [← Nat.add_assoc, cnt, ih, cnt]; omega
theorem cnt_congr {f g : Nat → Bool} (n : Nat) (h : ∀ i, i < n → f i = g i) : cnt f n = cnt g n := by
  induction n with
  | zero => rfl
  | succ n ih => rw [cnt, cnt, ih (fun i hi => h i (by omega)), h n (by omega)]
def ones (w : Nat) (n : Nat) : Nat := cnt w.testBit n
theorem ones_le (w n : Nat) : ones w n ≤ n := cnt_le _ _
theorem ones_succ (w n : Nat) : ones w (n + 1) = ones w n + (w.testBit n).toNat := rfl
theorem ones_turn {w k : Nat} (hk : k < 64) : ones (turn w k) 64 = ones w 64 := by
  unfold ones
  have e1 : cnt (turn w k).testBit 64 = cnt (fun i => w.testBit ((i + 64 - k) % 64)) 64 := by
    apply cnt_congr
    intro i hi
    unfold turn
    rw [testBit_wd]; simp [hi]
  rw [e1]
  have s1 := cnt_add (fun i => w.testBit ((i + 64 - k) % 64)) k (64 - k)
  have s2 := cnt_add w.testBit (64 - k) k
  rw [show k + (64 - k) = 64 by omega] at s1
  rw [show 64 - k + k = 64 by omega] at s2
  rw [s1, s2]
  have c1 : cnt (fun i => w.testBit ((i + 64 - k) % 64)) k = cnt (fun i => w.testBit (64 - k + i)) k := by
    apply cnt_congr; intro i hi; congr 1; omega
  have c2 : cnt (fun i => w.testBit ((k + i + 64 - k) % 64)) (64 - k) = cnt w.testBit (64 - k) := by
    apply cnt_congr; intro i hi; congr 1; omega
  rw [c1, c2]; omega

def top (w : Nat) : Nat → Int
  | 0 => -1
  | n + 1 => if w.testBit n then (n : Int) else top w n
def bot (w : Nat) : Nat → Int
  | 0 => -1
  | n + 1 => if bot w n < 0 ∧ w.testBit n = true then (n : Int) else bot w n
theorem top_in (w n : Nat) : -1 ≤ top w n ∧ top w n < n := by
  induction n with
  | zero => simp [top]
  | succ n ih => rw [top]; split <;> omega
theorem bot_in (w n : Nat) : -1 ≤ bot w n ∧ bot w n < n := by
  induction n with
  | zero => simp [bot]
  | succ n ih => rw [bot]; split <;> omega
theorem bot_stays {w n : Nat} (h : 0 ≤ bot w n) : ∀ m, n ≤ m → bot w m = bot w n := by
  intro m hm
  obtain ⟨d, rfl⟩ := Nat.exists_eq_add_of_le hm
  clear hm
  induction d with
  | zero => rfl
  | succ d ih => rw [← Nat.add_assoc, bot, if_neg (by rw [ih]; omega), ih]
theorem bot_hit {w n m : Nat} (h : bot w n = -1) (hb : w.testBit n = true) (hm : n < m) : bot w m = n := by
  have h1 : bot w (n + 1) = n := by rw [bot, if_pos ⟨by omega, hb⟩]
  rw [bot_stays (n := n + 1) (by omega) m (by omega), h1]
theorem top_le (w : Nat) (j : Nat) : ∀ n, top w n < (j : Int) ↔ w % 2 ^ n < 2 ^ j := by
  intro n
  induction n with
  | zero => simp [top, Nat.mod_one, Nat.two_pow_pos]; omega
  | succ n ih =>
    rw [top, mod_succ]
    have hlt : w % 2 ^ n < 2 ^ n := Nat.mod_lt _ (Nat.two_pow_pos n)
    cases w.testBit n
    · simpa using ih
    · simp only [if_true]
      constructor
      · intro h
        have : 2 ^ (n + 1) ≤ 2 ^ j := Nat.pow_le_pow_right (by decide) (by omega)
        rw [Nat.pow_succ] at this; omega
      · intro h
        apply Classical.byContradiction
        intro hn
        have : 2 ^ j ≤ 2 ^ n := Nat.pow_le_pow_right (by decide) (by omega)
        omega
theorem top_le64 {w : Nat} (hw : w < 18446744073709551616) (j : Nat) : top w 64 ≤ (j : Int) ↔ w < 2 ^ (j + 1) := by
  have h := top_le w (j + 1) 64
  rw [Nat.mod_eq_of_lt (by exact hw : w < 2 ^ 64)] at h
  rw [← h]; omega
theorem near_iff (a : Int) (n : Nat) : (-(2 : Int) ^ n ≤ a ∧ a < (2 : Int) ^ n) ↔ zig a < 2 ^ (n + 1) := by
  have e : (2 : Int) ^ n = ((2 ^ n : Nat) : Int) := by simp
  rw [e, Nat.pow_succ]
  generalize 2 ^ n = p
  unfold zig
  split <;> omega

end Go.Proofs.Ytcnbdfobhablbaa.M
