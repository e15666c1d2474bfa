/-
  Keys as lists of plain numbers: which are right, what parts make one, its text, what text is one's; prefixes. No program is spoken of.
-/
import Derived.Test.YtgobbdfgjgjigaaGreatDoorTgm
import Derived.Test.YtgobbdfgjgjigaaGreatDoorANam
import Derived.Lib.AtoiAll
import Derived.Lib.ItoaNum
import Derived.Lib.Index
set_option linter.unusedVariables false
set_option linter.unusedSimpArgs false
set_option maxRecDepth 100000
namespace Go.Proofs.YtgobbdfgjgjigaaGreatDoor
namespace D

/-- A key: 25 bytes. -/
structure Ky where
  l : List Nat
  len : l.length = 25
  lt : ∀ b ∈ l, b < 256
theorem Ky.eq {x y : Ky} (h : x.l = y.l) : x = y := by cases x; cases y; simp at h; subst h; rfl
theorem Ky.eq_iff {x y : Ky} : x = y ↔ x.l = y.l := ⟨fun h => by rw [h], Ky.eq⟩
instance : DecidableEq Ky := fun x y => decidable_of_iff (x.l = y.l) Ky.eq_iff.symm
def zK : Ky := ⟨List.replicate 25 0, by simp, by intro b hb; have := (List.mem_replicate.1 hb).2; omega⟩
instance : Inhabited Ky := ⟨zK⟩
def Ky.k (x : Ky) : Nat := x.l.getD 0 0
def Ky.p (x : Ky) : Nat := x.l.getD 1 0
def Ky.a (x : Ky) : Nat := x.l.getD 2 0
def Ky.n (x : Ky) : Nm.D.Nm := ⟨(x.l.drop 3).take 12, by simp [x.len], fun b hb => x.lt b (List.mem_of_mem_drop (List.mem_of_mem_take hb))⟩
def Ky.t (x : Ky) : Tg := ⟨x.l.drop 15, by simp [x.len], fun b hb => x.lt b (List.mem_of_mem_drop hb)⟩
def mkK (k p a : Nat) (n : Nm.D.Nm) (t : Tg) : Ky := ⟨k % 256 :: p % 256 :: a % 256 :: (n.l ++ t.l), by simp [n.len, t.len], by
  intro b hb
  simp only [List.mem_cons, List.mem_append] at hb
  rcases hb with rfl | rfl | rfl | hb | hb
  · omega
  · omega
  · omega
  · exact n.lt b hb
  · exact t.lt b hb⟩
theorem get_lt {l : List Nat} (h : ∀ b ∈ l, b < 256) (i : Nat) : l.getD i 0 < 256 := by
  rw [List.getD]
  cases e : l[i]? with
  | none => simp
  | some b => simpa using h b (List.mem_of_getElem? e)
theorem Ky.k_lt (x : Ky) : x.k < 256 := get_lt x.lt 0
theorem Ky.p_lt (x : Ky) : x.p < 256 := get_lt x.lt 1
theorem Ky.a_lt (x : Ky) : x.a < 256 := get_lt x.lt 2
theorem list3 {l : List Nat} (h : 3 ≤ l.length) : l = l.getD 0 0 :: l.getD 1 0 :: l.getD 2 0 :: l.drop 3 := by
  match l, h with
  | a :: b :: c :: r, _ => rfl
theorem mkK_eta (x : Ky) : mkK x.k x.p x.a x.n x.t = x := Ky.eq (by
  have h1 := x.k_lt; have h2 := x.p_lt; have h3 := x.a_lt
  have e : x.n.l ++ x.t.l = x.l.drop 3 := by
    simp only [Ky.n, Ky.t]
    rw [show x.l.drop 15 = (x.l.drop 3).drop 12 by rw [List.drop_drop], List.take_append_drop]
  show x.k % 256 :: x.p % 256 :: x.a % 256 :: (x.n.l ++ x.t.l) = x.l
  rw [Nat.mod_eq_of_lt h1, Nat.mod_eq_of_lt h2, Nat.mod_eq_of_lt h3, e]
  exact (list3 (by rw [x.len]; decide)).symm)
theorem Ky.ext {x y : Ky} (h1 : x.k = y.k) (h2 : x.p = y.p) (h3 : x.a = y.a) (h4 : x.n = y.n) (h5 : x.t = y.t) : x = y := by
  rw [← mkK_eta x, ← mkK_eta y, h1, h2, h3, h4, h5]
/-- How many numbers At a kind may have (none: it uses none), whether it uses a name, and a tag. -/
def ats (k : Int) : Nat := if k = 2 then 16 else if k = 4 ∨ k = 5 ∨ k = 6 then 4 else 0
def nmd (k : Int) : Bool := decide (k = 5 ∨ k = 6)
def tgd (k : Int) : Bool := decide (k = 3 ∨ k = 6)
/-- What is wrong with parts. -/
def err (k p a : Int) (n : Nm.D.Nm) (t : Tg) : Int :=
  if k < 1 ∨ 6 < k then 16
  else if (p < 0 ∨ 3 < p) ∨ (0 < ats k ∧ (a < 0 ∨ (ats k : Int) ≤ a)) then 5
  else if nmd k = true ∧ Nm.D.right n = false then 15
  else if tgd k = true ∧ (t = zero ∨ right t = false) then 14 else 0
def mkI (k p a : Int) (n : Nm.D.Nm) (t : Tg) : Ky := mkK k.toNat p.toNat (if 0 < ats k then a.toNat else 0) (if nmd k then n else Nm.D.zero) (if tgd k then t else zero)
/-- The key of parts; the error. -/
def kof (k p a : Int) (n : Nm.D.Nm) (t : Tg) : Ky × Int := if err k p a n t = 0 then (mkI k p a n t, 0) else (zK, err k p a n t)
def kright (x : Ky) : Bool := decide (err x.k x.p x.a x.n x.t = 0 ∧ mkI x.k x.p x.a x.n x.t = x)
theorem err_of {k p a : Int} {n : Nm.D.Nm} {t : Tg} (h1 : 1 ≤ k ∧ k ≤ 6) (h2 : 0 ≤ p ∧ p ≤ 3) (h3 : 0 < ats k → 0 ≤ a ∧ a < ats k) (h4 : nmd k = true → Nm.D.right n = true) (h5 : tgd k = true → t ≠ zero ∧ right t = true) : err k p a n t = 0 := by
  unfold err
  rw [if_neg (by omega), if_neg (by intro h; rcases h with h | ⟨h, h'⟩; omega; have := h3 h; omega), if_neg (by rintro ⟨h, h'⟩; rw [h4 h] at h'; cases h'), if_neg (by rintro ⟨h, h'⟩; have := h5 h; rcases h' with h' | h'; exact this.1 h'; rw [this.2] at h'; cases h')]
end D
end Go.Proofs.YtgobbdfgjgjigaaGreatDoor
