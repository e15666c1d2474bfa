/-
  More of keys as plain numbers: the document's keys, prefixes.
-/
import Derived.Test.YtnggojnfppehpaaKCel
set_option linter.unusedVariables false
set_option linter.unusedSimpArgs false
set_option maxRecDepth 100000
namespace Go.Proofs.Ytnggojnfppehpaa
namespace D
theorem Rk.eq {x y : Rk} (h1 : x.k = y.k) (h2 : x.p = y.p) (h3 : x.a = y.a) (h4 : x.n = y.n) (h5 : x.t = y.t) : x = y := by
  cases x; cases y; simp only at h1 h2 h3 h4 h5; subst h1; subst h2; subst h3; subst h4; subst h5; rfl
instance : DecidableEq Rk := fun x y => decidable_of_iff (x.k = y.k ∧ x.p = y.p ∧ x.a = y.a ∧ x.n = y.n ∧ x.t = y.t) ⟨fun ⟨h1, h2, h3, h4, h5⟩ => Rk.eq h1 h2 h3 h4 h5, fun h => by subst h; exact ⟨rfl, rfl, rfl, rfl, rfl⟩⟩
def zR : Rk := ⟨0, 0, 0, Nm.D.zero, zero, by decide, by decide, by decide⟩
/-- A key as the document's. -/
def toR (x : Ky) : Rk := ⟨x.k, x.p, x.a, x.n, x.t, by have := x.k_lt; omega, by have := x.p_lt; omega, by have := x.a_lt; omega⟩
theorem toR_inj {x y : Ky} (h : toR x = toR y) : x = y := by
  have h1 := congrArg Rk.k h
  have h2 := congrArg Rk.p h
  have h3 := congrArg Rk.a h
  have h4 := congrArg Rk.n h
  have h5 := congrArg Rk.t h
  simp only [toR] at h1 h2 h3 h4 h5
  exact Ky.ext (by omega) (by omega) (by omega) h4 h5
def rerr (x : Rk) : Int := err x.k x.p x.a x.n x.t
def mkR (x : Rk) : Rk := ⟨x.k, x.p, if 0 < ats x.k then x.a else 0, if nmd x.k then x.n else Nm.D.zero, if tgd x.k then x.t else zero, x.hk, x.hp, by have := x.ha; split <;> omega⟩
def rkof (x : Rk) : Rk × Int := if rerr x = 0 then (mkR x, 0) else (zR, rerr x)
def rright (x : Rk) : Bool := decide (rerr x = 0 ∧ mkR x = x)
theorem toR_mkI {x : Rk} (h : rerr x = 0) : toR (mkI x.k x.p x.a x.n x.t) = mkR x := by
  obtain ⟨h1, h2, h3, h4, h5⟩ := err_ok h
  have ha := ats_le x.k
  refine Rk.eq ?_ ?_ ?_ ?_ ?_
  · show ((mkI x.k x.p x.a x.n x.t).k : Int) = x.k
    rw [mkI, mkK_k (by omega)]; omega
  · show ((mkI x.k x.p x.a x.n x.t).p : Int) = x.p
    rw [mkI, mkK_p (by omega)]; omega
  · show ((mkI x.k x.p x.a x.n x.t).a : Int) = if 0 < ats x.k then x.a else 0
    rw [mkI, mkK_a (by split; have := h3 ‹_›; omega; omega)]
    split
    · have := h3 ‹_›; omega
    · rfl
  · show (mkI x.k x.p x.a x.n x.t).n = _
    exact mkK_n
  · show (mkI x.k x.p x.a x.n x.t).t = _
    exact mkK_t
theorem rright_to (x : Ky) : rright (toR x) = kright x := by
  unfold rright kright
  rw [decide_eq_decide]
  constructor
  · rintro ⟨h1, h2⟩
    exact ⟨h1, toR_inj ((toR_mkI h1).trans h2)⟩
  · rintro ⟨h1, h2⟩
    exact ⟨h1, (toR_mkI (x := toR x) h1).symm.trans (congrArg toR h2)⟩
theorem rkof_to {x : Ky} (h : kright x = true) : rkof (toR x) = (toR x, 0) := by
  rw [← rright_to] at h
  simp only [rright, decide_eq_true_eq] at h
  rw [rkof, if_pos h.1, h.2]
/-- A key's parts up to a depth. -/
def upto (x : Ky) (d : Int) : Ky :=
  if d = 0 then zK else if d = 1 then mkK x.k 0 0 Nm.D.zero zero else if d = 2 then mkK x.k x.p 0 Nm.D.zero zero else if d = 3 then mkK x.k x.p x.a Nm.D.zero zero else if d = 4 then mkK x.k x.p x.a x.n zero else x
def has (p : Ky) (d : Int) (x : Ky) : Bool := decide (0 ≤ d ∧ d ≤ 5 ∧ upto p d = upto x d)
def ends (d : Int) : Nat := if d = 1 then 1 else if d = 2 then 2 else if d = 3 then 3 else if d = 4 then 15 else if d = 5 then 25 else 0
theorem mkK_inj {k p a k' p' a' : Nat} {n n' : Nm.D.Nm} {t t' : Tg} (hk : k < 256) (hp : p < 256) (ha : a < 256) (hk' : k' < 256) (hp' : p' < 256) (ha' : a' < 256) : mkK k p a n t = mkK k' p' a' n' t' ↔ k = k' ∧ p = p' ∧ a = a' ∧ n = n' ∧ t = t' := by
  constructor
  · intro h
    have h1 := congrArg Ky.k h
    have h2 := congrArg Ky.p h
    have h3 := congrArg Ky.a h
    have h4 := congrArg Ky.n h
    have h5 := congrArg Ky.t h
    rw [mkK_k hk, mkK_k hk'] at h1
    rw [mkK_p hp, mkK_p hp'] at h2
    rw [mkK_a ha, mkK_a ha'] at h3
    rw [mkK_n, mkK_n] at h4
    rw [mkK_t, mkK_t] at h5
    exact ⟨h1, h2, h3, h4, h5⟩
  · rintro ⟨rfl, rfl, rfl, rfl, rfl⟩; rfl
theorem has_iff (p : Ky) (d : Int) (x : Ky) : has p d x = decide (0 ≤ d ∧ d ≤ 5 ∧ (d < 1 ∨ p.k = x.k) ∧ (d < 2 ∨ p.p = x.p) ∧ (d < 3 ∨ p.a = x.a) ∧ (d < 4 ∨ p.n = x.n) ∧ (d < 5 ∨ p.t = x.t)) := by
  unfold has
  rw [decide_eq_decide]
  refine and_congr_right fun h0 => and_congr_right fun h5 => ?_
  have a1 := p.k_lt; have a2 := p.p_lt; have a3 := p.a_lt
  have b1 := x.k_lt; have b2 := x.p_lt; have b3 := x.a_lt
  obtain rfl | rfl | rfl | rfl | rfl | rfl : d = 0 ∨ d = 1 ∨ d = 2 ∨ d = 3 ∨ d = 4 ∨ d = 5 := by omega
  · simp [upto]
  · simp [upto, mkK_inj a1 (show 0 < 256 by omega) (show 0 < 256 by omega) b1 (show 0 < 256 by omega) (show 0 < 256 by omega)]
  · simp [upto, mkK_inj a1 a2 (show 0 < 256 by omega) b1 b2 (show 0 < 256 by omega)]
  · simp [upto, mkK_inj a1 a2 a3 b1 b2 b3]
  · simp [upto, mkK_inj a1 a2 a3 b1 b2 b3]
  · simp only [upto]
    constructor
    · intro h
      have h : p = x := h
      subst h; simp
    · intro h
      have h : p.k = x.k ∧ p.p = x.p ∧ p.a = x.a ∧ p.n = x.n ∧ p.t = x.t := by simpa using h
      exact Ky.ext h.1 h.2.1 h.2.2.1 h.2.2.2.1 h.2.2.2.2
/-- Of a depth that is one: a key is of a prefix just if its bytes begin with the prefix's. -/
theorem has_take {p x : Ky} {d : Int} (h0 : 0 ≤ d) (h5 : d ≤ 5) : has p d x = decide (p.l.take (ends d) = x.l.take (ends d)) := by
  rw [has_iff, decide_eq_decide]
  have hn : ∀ y : Ky, y.l = y.k :: y.p :: y.a :: (y.n.l ++ y.t.l) := Ky.l_eq
  have e12 : ∀ y : Ky, (y.n.l ++ y.t.l).take 12 = y.n.l := fun y => by
    rw [List.take_append_of_le_length (by rw [y.n.len]; omega), List.take_of_length_le (by rw [y.n.len]; omega)]
  obtain rfl | rfl | rfl | rfl | rfl | rfl : d = 0 ∨ d = 1 ∨ d = 2 ∨ d = 3 ∨ d = 4 ∨ d = 5 := by omega
  · simp [ends]
  · rw [hn p, hn x]; simp [ends]
  · rw [hn p, hn x]; simp [ends]
  · rw [hn p, hn x]; simp [ends]
  · rw [hn p, hn x]
    show _ ↔ (p.k :: p.p :: p.a :: (p.n.l ++ p.t.l).take 12) = (x.k :: x.p :: x.a :: (x.n.l ++ x.t.l).take 12)
    rw [e12, e12]
    simp [Nm.D.Nm.eq_iff]
  · show _ ↔ p.l.take 25 = x.l.take 25
    rw [List.take_of_length_le (by rw [p.len]; omega), List.take_of_length_le (by rw [x.len]; omega)]
    constructor
    · intro h
      have h : p.k = x.k ∧ p.p = x.p ∧ p.a = x.a ∧ p.n = x.n ∧ p.t = x.t := by simpa using h
      rw [Ky.ext h.1 h.2.1 h.2.2.1 h.2.2.2.1 h.2.2.2.2]
    · intro h
      have := Ky.eq h
      subst this; simp
theorem ends_le (d : Int) : ends d ≤ 25 := by
  unfold ends
  split
  · omega
  · split
    · omega
    · split
      · omega
      · split
        · omega
        · split <;> omega
end D
theorem rS_sm (x y : D.Rk) : rS.sm x y = decide (x = y) := by unfold Shp.sm; congr
theorem kS_sm (x y : D.Ky) : kS.sm x y = decide (x = y) := by unfold Shp.sm; congr
end Go.Proofs.Ytnggojnfppehpaa
