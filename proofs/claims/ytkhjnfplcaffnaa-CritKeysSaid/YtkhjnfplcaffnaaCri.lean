/-
  Keys as things of 200 bits: which comes first, where two part, which begin so.
-/
import Derived.Test.YtkhjnfplcaffnaaDd
import Derived.Test.YtkhjnfplcaffnaaKls
import Derived.Lib.BitFns
set_option linter.unusedVariables false
set_option linter.unusedSimpArgs false
set_option maxRecDepth 100000
namespace Go.Proofs.Ytkhjnfplcaffnaa
namespace D
def kbt (x : Ky) (i : Nat) : Bool := (x.l.getD (i / 8) 0).testBit (7 - i % 8)
theorem byte_ext {a b : Nat} (ha : a < 256) (hb : b < 256) (h : ∀ k, k < 8 → a.testBit (7 - k) = b.testBit (7 - k)) : a = b := by
  refine Nat.eq_of_testBit_eq fun i => ?_
  by_cases hi : i < 8
  · have := h (7 - i) (by omega)
    rwa [show 7 - (7 - i) = i by omega] at this
  · have hp : 256 ≤ 2 ^ i := by
      calc 256 = 2 ^ 8 := rfl
        _ ≤ 2 ^ i := Nat.pow_le_pow_right (by omega) (by omega)
    rw [Nat.testBit_lt_two_pow (by omega), Nat.testBit_lt_two_pow (by omega)]
theorem kbt_at (x : Ky) (j k : Nat) (hk : k < 8) : kbt x (8 * j + k) = (x.l.getD j 0).testBit (7 - k) := by
  unfold kbt
  rw [show (8 * j + k) / 8 = j by omega, show (8 * j + k) % 8 = k by omega]
theorem byte_lt (x : Ky) (j : Nat) : x.l.getD j 0 < 256 := get_lt x.lt j
theorem bytes_eq {x y : Ky} (h : ∀ j, j < 25 → x.l.getD j 0 = y.l.getD j 0) : x = y := by
  refine Ky.eq (List.ext_getElem (by rw [x.len, y.len]) fun j h1 h2 => ?_)
  have := h j (by rw [x.len] at h1; exact h1)
  rwa [List.getD, List.getD, List.getElem?_eq_getElem h1, List.getElem?_eq_getElem h2] at this
instance : Cr.Bits Ky where
  bt := kbt
  ext x y h := bytes_eq fun j hj => byte_ext (byte_lt x j) (byte_lt y j) fun k hk => by
    have := h (8 * j + k) (by omega)
    rwa [kbt_at _ _ _ hk, kbt_at _ _ _ hk] at this
theorem bt_def (x : Ky) (i : Nat) : Cr.Bits.bt x i = kbt x i := rfl
/-- Bytes alike ahead of one: bits alike ahead of it. -/
theorem bits_of_bytes {x y : Ky} {j : Nat} (h : ∀ i, i < j → x.l.getD i 0 = y.l.getD i 0) : ∀ i, i < 8 * j → Cr.Bits.bt x i = Cr.Bits.bt y i := by
  intro i hi
  rw [bt_def, bt_def]
  unfold kbt
  rw [h (i / 8) (by omega)]
theorem bytes_of_bits {x y : Ky} {j : Nat} (h : ∀ i, i < 8 * j → Cr.Bits.bt x i = Cr.Bits.bt y i) : ∀ i, i < j → x.l.getD i 0 = y.l.getD i 0 := fun i hi =>
  byte_ext (byte_lt x i) (byte_lt y i) fun k hk => by
    have := h (8 * i + k) (by omega)
    rw [bt_def, bt_def, kbt_at _ _ _ hk, kbt_at _ _ _ hk] at this
    exact this
theorem len_xor : ∀ c : Fin 256, c.val ≠ 0 → 1 ≤ Lib.bitLen c.val ∧ Lib.bitLen c.val ≤ 8 ∧ c.val.testBit (Lib.bitLen c.val - 1) = true ∧ ∀ i : Fin 8, Lib.bitLen c.val ≤ i.val → c.val.testBit i.val = false := by decide +kernel
theorem xor_lt {a b : Nat} (ha : a < 256) (hb : b < 256) : a ^^^ b < 256 := Nat.xor_lt_two_pow (n := 8) ha hb
/-- The first bytes that are unlike tell where two part. -/
theorem par_byte {x y : Ky} {j : Nat} (hj : j < 25) (h : ∀ i, i < j → x.l.getD i 0 = y.l.getD i 0) (hn : x.l.getD j 0 ≠ y.l.getD j 0) :
    Cr.par x y = 8 * j + (8 - Lib.bitLen (x.l.getD j 0 ^^^ y.l.getD j 0)) ∧ 1 ≤ Lib.bitLen (x.l.getD j 0 ^^^ y.l.getD j 0) ∧ Lib.bitLen (x.l.getD j 0 ^^^ y.l.getD j 0) ≤ 8 := by
  have hlt := xor_lt (byte_lt x j) (byte_lt y j)
  have hne : x.l.getD j 0 ^^^ y.l.getD j 0 ≠ 0 := fun e => hn (by
    have := congrArg (· ^^^ y.l.getD j 0) e
    simpa [Nat.xor_assoc] using this)
  obtain ⟨h1, h8, ht, hf⟩ := len_xor ⟨_, hlt⟩ hne
  simp only at h1 h8 ht hf
  obtain ⟨L, hL⟩ : ∃ L, Lib.bitLen (x.l.getD j 0 ^^^ y.l.getD j 0) = L := ⟨_, rfl⟩
  rw [hL] at h1 h8 ht hf ⊢
  refine ⟨Cr.par_of (by omega) (fun i hi => ?_) ?_, h1, h8⟩
  · by_cases c : i < 8 * j
    · exact bits_of_bytes h i c
    · obtain ⟨k, rfl⟩ : ∃ k, i = 8 * j + k := ⟨i - 8 * j, by omega⟩
      have hk : k < 8 - L := by omega
      rw [bt_def, bt_def, kbt_at _ _ _ (by omega), kbt_at _ _ _ (by omega)]
      have := hf ⟨7 - k, by omega⟩ (show L ≤ 7 - k by omega)
      simp only [Nat.testBit_xor] at this
      revert this
      cases (x.l.getD j 0).testBit (7 - k) <;> cases (y.l.getD j 0).testBit (7 - k) <;> decide
  · rw [bt_def, bt_def, kbt_at _ _ _ (by omega), kbt_at _ _ _ (by omega), show 7 - (8 - L) = L - 1 by omega]
    rw [Nat.testBit_xor] at ht
    intro e
    rw [e] at ht
    simp at ht
/-- Keys come in the order of their bytes. -/
theorem cmp_first : ∀ (l k : List Nat) (j : Nat), (∀ i, i < j → l.getD i 0 = k.getD i 0) → j < l.length → j < k.length → l.getD j 0 < k.getD j 0 → cmp l k = -1
  | [], _, j, _, h, _, _ => by simp at h
  | _ :: _, [], j, _, _, h, _ => by simp at h
  | a :: l, b :: k, 0, _, _, _, h => by
    simp only [List.getD_cons_zero] at h
    rw [cmp, if_neg (by omega), if_pos h]
  | a :: l, b :: k, j + 1, he, h1, h2, h => by
    have e0 := he 0 (by omega)
    simp only [List.getD_cons_zero] at e0
    subst e0
    have := cmp_first l k j (fun i hi => by have := he (i + 1) (by omega); simpa only [List.getD_cons_succ] using this) (by simpa using h1) (by simpa using h2) (by simpa only [List.getD_cons_succ] using h)
    simp [cmp, this]
theorem bit_less {a b : Nat} (ha : a < 256) (hb : b < 256) {k : Nat} (hk : k < 8) (h : ∀ i, i < k → a.testBit (7 - i) = b.testBit (7 - i)) (h0 : a.testBit (7 - k) = false) (h1 : b.testBit (7 - k) = true) : a < b := by
  have g : ∀ i, i < k → a / 2 ^ (7 - i) % 2 = b / 2 ^ (7 - i) % 2 := fun i hi => by
    have := h i hi
    rw [Nat.testBit_eq_decide_div_mod_eq, Nat.testBit_eq_decide_div_mod_eq, decide_eq_decide] at this
    omega
  rw [Nat.testBit_eq_decide_div_mod_eq] at h0 h1
  have h0 := of_decide_eq_false h0
  have h1 := of_decide_eq_true h1
  obtain rfl | rfl | rfl | rfl | rfl | rfl | rfl | rfl : k = 0 ∨ k = 1 ∨ k = 2 ∨ k = 3 ∨ k = 4 ∨ k = 5 ∨ k = 6 ∨ k = 7 := by omega
  · simp only [Nat.sub_zero, Nat.reduceSub, Nat.reducePow] at h0 h1; omega
  · have g0 := g 0 (by omega); simp only [Nat.sub_zero, Nat.reduceSub, Nat.reducePow] at h0 h1 g0; omega
  · have g0 := g 0 (by omega); have g1 := g 1 (by omega); simp only [Nat.sub_zero, Nat.reduceSub, Nat.reducePow] at h0 h1 g0 g1; omega
  · have g0 := g 0 (by omega); have g1 := g 1 (by omega); have g2 := g 2 (by omega); simp only [Nat.sub_zero, Nat.reduceSub, Nat.reducePow] at h0 h1 g0 g1 g2; omega
  · have g0 := g 0 (by omega); have g1 := g 1 (by omega); have g2 := g 2 (by omega); have g3 := g 3 (by omega); simp only [Nat.sub_zero, Nat.reduceSub, Nat.reducePow] at h0 h1 g0 g1 g2 g3; omega
  · have g0 := g 0 (by omega); have g1 := g 1 (by omega); have g2 := g 2 (by omega); have g3 := g 3 (by omega); have g4 := g 4 (by omega); simp only [Nat.sub_zero, Nat.reduceSub, Nat.reducePow] at h0 h1 g0 g1 g2 g3 g4; omega
  · have g0 := g 0 (by omega); have g1 := g 1 (by omega); have g2 := g 2 (by omega); have g3 := g 3 (by omega); have g4 := g 4 (by omega); have g5 := g 5 (by omega); simp only [Nat.sub_zero, Nat.reduceSub, Nat.reducePow] at h0 h1 g0 g1 g2 g3 g4 g5; omega
  · have g0 := g 0 (by omega); have g1 := g 1 (by omega); have g2 := g 2 (by omega); have g3 := g 3 (by omega); have g4 := g 4 (by omega); have g5 := g 5 (by omega); have g6 := g 6 (by omega); simp only [Nat.sub_zero, Nat.reduceSub, Nat.reducePow, Nat.sub_self, Nat.pow_zero, Nat.div_one] at h0 h1 g0 g1 g2 g3 g4 g5 g6; omega
theorem cmp_lt {x y : Ky} (h : Cr.lt x y = true) : cmp x.l y.l = -1 := by
  obtain ⟨d, hd, he, h0, h1⟩ := Cr.lt_iff.1 h
  have hb := bytes_of_bits (x := x) (y := y) (j := d / 8) (fun i hi => he i (by omega))
  refine cmp_first _ _ (d / 8) hb (by rw [x.len]; omega) (by rw [y.len]; omega) ?_
  refine bit_less (byte_lt x _) (byte_lt y _) (k := d % 8) (by omega) (fun i hi => ?_) h0 h1
  have := he (8 * (d / 8) + i) (by omega)
  rwa [bt_def, bt_def, kbt_at _ _ _ (by omega), kbt_at _ _ _ (by omega)] at this
theorem cmp_swap : ∀ a b : List Nat, cmp a b = -1 → cmp b a = 1
  | [], [], h => by simp [cmp] at h
  | [], _ :: _, _ => by simp [cmp]
  | _ :: _, [], h => by simp [cmp] at h
  | a :: l, b :: k, h => by
    unfold cmp at h ⊢
    by_cases e : a = b
    · subst e
      rw [if_pos rfl] at h ⊢
      exact cmp_swap l k h
    · rw [if_neg e] at h
      rw [if_neg (Ne.symm e)]
      by_cases c : a < b
      · rw [if_neg (by omega)]
      · rw [if_neg c] at h; cases h
theorem lt_cmp (x y : Ky) : decide (cmp x.l y.l < 0) = Cr.lt x y := by
  cases h : Cr.lt x y
  · by_cases e : x = y
    · subst e
      rw [cmp_same]; rfl
    · have := cmp_swap _ _ (cmp_lt (Cr.lt_tot e h))
      rw [this]; rfl
  · rw [cmp_lt h]; rfl
/-- A key is of a prefix just if it begins with its bits. -/
theorem has_par {p x : Ky} {d : Int} (h0 : 0 ≤ d) (h5 : d ≤ 5) : has p d x = decide (8 * ends d ≤ Cr.par x p) := by
  rw [has_take h0 h5, decide_eq_decide]
  have he := ends_le d
  constructor
  · intro h
    refine Cr.par_ge (by omega) (bits_of_bytes fun i hi => ?_)
    have := congrArg (fun l => l.getD i 0) h
    simpa [List.getD, List.getElem?_take, hi] using this.symm
  · intro h
    have hb := bytes_of_bits (x := x) (y := p) (j := ends d) (fun i hi => Cr.par_eq (by omega))
    refine List.ext_getElem (by rw [List.length_take, List.length_take, p.len, x.len]) fun j h1 h2 => ?_
    rw [List.length_take, p.len] at h1
    have := hb j (by omega)
    rw [List.getD, List.getD, List.getElem?_eq_getElem (by rw [x.len]; omega), List.getElem?_eq_getElem (by rw [p.len]; omega)] at this
    simp only [List.getElem_take]
    exact this.symm
theorem ends_out {d : Int} (h : ¬ (0 ≤ d ∧ d ≤ 5)) : ends d = 0 := by
  unfold ends
  rw [if_neg (by omega), if_neg (by omega), if_neg (by omega), if_neg (by omega), if_neg (by omega)]
end D
end Go.Proofs.Ytkhjnfplcaffnaa
