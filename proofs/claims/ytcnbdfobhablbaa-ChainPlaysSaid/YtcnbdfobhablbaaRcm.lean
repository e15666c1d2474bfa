/-
  Records as plain numbers: what is wrong with one, its bytes, what is read of any bytes. No program is spoken of.
-/
import Derived.Test.YtcnbdfobhablbaaFld
set_option linter.unusedVariables false
set_option maxRecDepth 100000
set_option linter.unusedSimpArgs false
namespace Go.Proofs.Ytcnbdfobhablbaa
namespace D

/-- A record: its kind, state, user, parent, mask, whether it is gone, its revision, its time, its text. -/
structure Rc where
  k : Nat
  s : Nat
  u : Nat
  p : Nat
  m : Nat
  g : Bool
  v : Nat
  a : Nat
  t : ByteArray
deriving DecidableEq
structure Rc.wf (r : Rc) : Prop where
  k : r.k < 256
  s : r.s < 256
  u : r.u < 256
  p : r.p < 256
  m : r.m < 256
  v : r.v < 4294967296
  a : r.a < 18446744073709551616
def zRc : Rc := ⟨0, 0, 0, 0, 0, false, 0, 0, ⟨#[]⟩⟩
def bare (k : Nat) : Rc := ⟨k, 0, 0, 0, 0, false, 0, 0, ⟨#[]⟩⟩
/-- A record without the fields that its kind uses. -/
def rinse (r : Rc) : Rc :=
  match r with
  | ⟨1, s, _, p, m, g, v, a, t⟩ => ⟨1, s, 0, p, m, g, v, a, t⟩
  | ⟨2, s, u, p, _, g, v, a, t⟩ => ⟨2, s, u, p, 0, g, v, a, t⟩
  | ⟨4, _, u, _, m, g, v, _, t⟩ => ⟨4, 0, u, 0, m, g, v, 0, t⟩
  | ⟨5, s, u, p, m, _, _, a, _⟩ => ⟨5, s, u, p, m, false, 0, a, ⟨#[]⟩⟩
  | ⟨6, _, _, p, m, g, _, a, _⟩ => ⟨6, 0, 0, p, m, g, 0, a, ⟨#[]⟩⟩
  | r => r
/-- The first of two errors. -/
def fst2 (a b : Nat) : Nat := if a = 0 then b else a
def inn (x lo hi : Nat) : Nat := if lo ≤ x ∧ x ≤ hi then 0 else 5
def lng (t : ByteArray) : Nat := if t.size ≤ 60 then 0 else 2
/-- The first error of the bounds of the fields that a record's kind uses. -/
def amiss (r : Rc) : Nat :=
  match r.k with
  | 1 => inn r.u 0 15
  | 2 => inn r.m 1 63
  | 4 => fst2 (inn r.p 0 3) (inn r.s 0 1)
  | 5 => fst2 (inn r.v 1 4294967295) (lng r.t)
  | 6 => fst2 (fst2 (fst2 (inn r.s 1 5) (inn r.u 0 15)) (inn r.v 1 4294967295)) (lng r.t)
  | _ => 0
/-- What is wrong with a record. -/
def chk (r : Rc) : Nat :=
  if r.k = 0 ∨ 6 < r.k then 16
  else if rinse r ≠ bare r.k then 3
  else if amiss r ≠ 0 then amiss r
  else if r.g = true ∧ r.t.size ≠ 0 then 3
  else 0
def rtxt_ (t : ByteArray) : List Nat := sm t.size ++ ns t
/-- A right record's bytes behind its kind. -/
def rtl (r : Rc) : List Nat :=
  match r.k with
  | 1 => [r.u]
  | 2 => [r.m]
  | 4 => [r.p] ++ [r.s] ++ sm r.a
  | 5 => [if r.g then 1 else 0] ++ sm r.v ++ rtxt_ r.t
  | 6 => [r.s] ++ [r.u] ++ sm r.v ++ rtxt_ r.t
  | _ => []
def rby (r : Rc) : List Nat := r.k :: rtl r
theorem kind_cases {r : Rc} (h : ¬ (r.k = 0 ∨ 6 < r.k)) : r.k = 1 ∨ r.k = 2 ∨ r.k = 3 ∨ r.k = 4 ∨ r.k = 5 ∨ r.k = 6 := by omega
theorem chk_kind {r : Rc} (h : chk r = 0) : r.k = 1 ∨ r.k = 2 ∨ r.k = 3 ∨ r.k = 4 ∨ r.k = 5 ∨ r.k = 6 := by
  unfold chk at h
  split at h
  · cases h
  · exact kind_cases ‹_›
theorem size0 {t : ByteArray} (h : t.size = 0) : t = ⟨#[]⟩ := by
  cases t with
  | mk d =>
    congr
    exact Array.eq_empty_of_size_eq_zero h
/-- What a right record of each kind is. -/
theorem chk_1 {r : Rc} (hk : r.k = 1) (h : chk r = 0) : r = ⟨1, 0, r.u, 0, 0, false, 0, 0, ⟨#[]⟩⟩ ∧ r.u ≤ 15 := by
  obtain ⟨k, s, u, p, m, g, v, a, t⟩ := r
  simp only at hk
  subst hk
  simp only [chk, rinse, bare, amiss, inn] at h ⊢
  split at h
  · cases h
  · split at h
    · cases h
    · rename_i h1 h2
      simp only [ne_eq, Decidable.not_not, Rc.mk.injEq, true_and] at h2
      obtain ⟨rfl, rfl, rfl, rfl, rfl, rfl, rfl⟩ := h2
      simp at h ⊢
      omega
theorem chk_2 {r : Rc} (hk : r.k = 2) (h : chk r = 0) : r = ⟨2, 0, 0, 0, r.m, false, 0, 0, ⟨#[]⟩⟩ ∧ 1 ≤ r.m ∧ r.m ≤ 63 := by
  obtain ⟨k, s, u, p, m, g, v, a, t⟩ := r
  simp only at hk
  subst hk
  simp only [chk, rinse, bare, amiss, inn] at h ⊢
  split at h
  · cases h
  · split at h
    · cases h
    · rename_i h1 h2
      simp only [ne_eq, Decidable.not_not, Rc.mk.injEq, true_and] at h2
      obtain ⟨rfl, rfl, rfl, rfl, rfl, rfl, rfl⟩ := h2
      simp at h ⊢
      omega
theorem chk_3 {r : Rc} (hk : r.k = 3) (h : chk r = 0) : r = ⟨3, 0, 0, 0, 0, false, 0, 0, ⟨#[]⟩⟩ := by
  obtain ⟨k, s, u, p, m, g, v, a, t⟩ := r
  simp only at hk
  subst hk
  simp only [chk, rinse, bare] at h ⊢
  split at h
  · cases h
  · split at h
    · cases h
    · rename_i h1 h2
      simpa only [ne_eq, Decidable.not_not] using h2
theorem chk_4 {r : Rc} (hk : r.k = 4) (h : chk r = 0) : r = ⟨4, r.s, 0, r.p, 0, false, 0, r.a, ⟨#[]⟩⟩ ∧ r.p ≤ 3 ∧ r.s ≤ 1 := by
  obtain ⟨k, s, u, p, m, g, v, a, t⟩ := r
  simp only at hk
  subst hk
  simp only [chk, rinse, bare, amiss, inn, fst2] at h ⊢
  split at h
  · cases h
  · split at h
    · cases h
    · rename_i h1 h2
      simp only [ne_eq, Decidable.not_not, Rc.mk.injEq, true_and] at h2
      obtain ⟨rfl, rfl, rfl, rfl, rfl⟩ := h2
      by_cases h3 : p ≤ 3 <;> by_cases h4 : s ≤ 1 <;> simp [h3, h4] at h ⊢
theorem chk_5 {r : Rc} (hk : r.k = 5) (h : chk r = 0) : r = ⟨5, 0, 0, 0, 0, r.g, r.v, 0, r.t⟩ ∧ 1 ≤ r.v ∧ r.v ≤ 4294967295 ∧ r.t.size ≤ 60 ∧ (r.g = true → r.t = ⟨#[]⟩) := by
  obtain ⟨k, s, u, p, m, g, v, a, t⟩ := r
  simp only at hk
  subst hk
  simp only [chk, rinse, bare, amiss, inn, fst2, lng] at h ⊢
  split at h
  · cases h
  · split at h
    · cases h
    · rename_i h1 h2
      simp only [ne_eq, Decidable.not_not, Rc.mk.injEq, true_and, and_true] at h2
      obtain ⟨rfl, rfl, rfl, rfl, rfl⟩ := h2
      by_cases h3 : 1 ≤ v ∧ v ≤ 4294967295
      · by_cases h4 : t.size ≤ 60
        · simp [h3, h4] at h
          refine ⟨rfl, h3.1, h3.2, h4, fun hg => ?_⟩
          subst hg
          simp at h
          exact h
        · simp [h3, h4] at h
      · simp [h3] at h
theorem chk_6 {r : Rc} (hk : r.k = 6) (h : chk r = 0) : r = ⟨6, r.s, r.u, 0, 0, false, r.v, 0, r.t⟩ ∧ 1 ≤ r.s ∧ r.s ≤ 5 ∧ r.u ≤ 15 ∧ 1 ≤ r.v ∧ r.v ≤ 4294967295 ∧ r.t.size ≤ 60 := by
  obtain ⟨k, s, u, p, m, g, v, a, t⟩ := r
  simp only at hk
  subst hk
  simp only [chk, rinse, bare, amiss, inn, fst2, lng] at h ⊢
  split at h
  · cases h
  · split at h
    · cases h
    · rename_i h1 h2
      simp only [ne_eq, Decidable.not_not, Rc.mk.injEq, true_and, and_true] at h2
      obtain ⟨rfl, rfl, rfl, rfl⟩ := h2
      by_cases h3 : 1 ≤ s ∧ s ≤ 5
      · by_cases h4 : u ≤ 15
        · by_cases h5 : 1 ≤ v ∧ v ≤ 4294967295
          · by_cases h6 : t.size ≤ 60
            · exact ⟨rfl, h3.1, h3.2, h4, h5.1, h5.2, h6⟩
            · simp [h3, h4, h5, h6] at h
          · simp [h3, h4, h5] at h
        · simp [h3, h4] at h
      · simp [h3] at h

/-- Where a reader is, and its error. -/
structure Rz where
  n : Nat
  e : Nat
def zn (l : List Nat) (z : Rz) (k : Int) (m : Nat) : Rz := if z.e = 0 then ⟨z.n + (rd k m (l.drop z.n)).k, (rd k m (l.drop z.n)).e⟩ else z
def zx (l : List Nat) (z : Rz) (k : Int) (m : Nat) : Nat := if z.e = 0 then (rd k m (l.drop z.n)).x else 0
def zs (l : List Nat) (z : Rz) (k : Int) (m : Nat) : List Nat := if z.e = 0 then (rd k m (l.drop z.n)).s else []
def mxR : Nat := 4294967295
def mxA : Nat := 18446744073709551615
/-- What the fields of a kind are read as, behind a place: the record, the place and error behind, whether gone's byte is above 1. -/
structure Rf where
  r : Rc
  z : Rz
  odd : Bool
def rfs (l : List Nat) (z : Rz) (k : Nat) : Rf :=
  match k with
  | 1 => ⟨⟨1, 0, zx l z 0 0, 0, 0, false, 0, 0, ⟨#[]⟩⟩, zn l z 0 0, false⟩
  | 2 => ⟨⟨2, 0, 0, 0, zx l z 0 0, false, 0, 0, ⟨#[]⟩⟩, zn l z 0 0, false⟩
  | 4 =>
    let z1 := zn l z 0 0
    let z2 := zn l z1 0 0
    ⟨⟨4, zx l z1 0 0, 0, zx l z 0 0, 0, false, 0, zx l z2 3 mxA, ⟨#[]⟩⟩, zn l z2 3 mxA, false⟩
  | 5 =>
    let z1 := zn l z 0 0
    let z2 := zn l z1 3 mxR
    ⟨⟨5, 0, 0, 0, 0, decide (zx l z 0 0 = 1), zx l z1 3 mxR, 0, sb (zs l z2 4 60)⟩, zn l z2 4 60, decide (1 < zx l z 0 0)⟩
  | 6 =>
    let z1 := zn l z 0 0
    let z2 := zn l z1 0 0
    let z3 := zn l z2 3 mxR
    ⟨⟨6, zx l z 0 0, zx l z1 0 0, 0, 0, false, zx l z2 3 mxR, 0, sb (zs l z3 4 60)⟩, zn l z3 4 60, false⟩
  | k => ⟨bare k, z, false⟩
/-- What is read: the record, the place behind it, the error. -/
structure Ro where
  r : Rc
  n : Nat
  e : Nat
/-- The first record from a place on: its fields behind the byte of its kind. -/
def rdr (l : List Nat) (n : Nat) : Ro :=
  match l[n]? with
  | none => ⟨zRc, 0, 4⟩
  | some k =>
    if k = 0 ∨ 6 < k then ⟨zRc, 0, 16⟩
    else
      let f := rfs l ⟨n + 1, 0⟩ k
      let e := fst2 (fst2 f.z.e (if f.odd then 5 else 0)) (chk f.r)
      if e = 0 then ⟨f.r, f.z.n, 0⟩ else ⟨zRc, 0, e⟩
end D
end Go.Proofs.Ytcnbdfobhablbaa
