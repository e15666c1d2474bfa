/-
  Keys as lists of plain numbers. No program is spoken of.
-/
import Derived.Test.YtpiajeonnhfanaaDoorGa
set_option linter.unusedVariables false
set_option linter.unusedSimpArgs false
set_option maxRecDepth 100000
namespace Go.Proofs.YtpiajeonnhfanaaDoor
namespace D

/-- A key: 25 bytes. -/
structure Ky where
  l : List Nat
  len : l.length = 25
  lt : ∀ b ∈ l, b < 256
theorem Ky.eq {x y : Ky} (h : x.l = y.l) : x = y := by cases x; cases y; simp at h; subst h; rfl
theorem Ky.eq_iff {x y : Ky} : x = y ↔ x.l = y.l := ⟨fun h => by rw [h], Ky.eq⟩
instance : DecidableEq Ky := fun x y => decidable_of_iff (x.l = y.l) Ky.eq_iff.symm
def zK : Ky := ⟨List.replicate 25 0, by simp, by intro b hb; have := (List.mem_replicate.1 hb).2; omega⟩
instance : Inhabited Ky := ⟨zK⟩
def Ky.k (x : Ky) : Nat := x.l.getD 0 0
def Ky.p (x : Ky) : Nat := x.l.getD 1 0
def Ky.a (x : Ky) : Nat := x.l.getD 2 0
def Ky.n (x : Ky) : Nm.D.Nm := ⟨(x.l.drop 3).take 12, by simp [x.len], fun b hb => x.lt b (List.mem_of_mem_drop (List.mem_of_mem_take hb))⟩
def Ky.t (x : Ky) : Tg := ⟨x.l.drop 15, by simp [x.len], fun b hb => x.lt b (List.mem_of_mem_drop hb)⟩
def mkK (k p a : Nat) (n : Nm.D.Nm) (t : Tg) : Ky := ⟨k % 256 :: p % 256 :: a % 256 :: (n.l ++ t.l), by simp [n.len, t.len], by
  intro b hb
  simp only [List.mem_cons, List.mem_append] at hb
  rcases hb with rfl | rfl | rfl | hb | hb
  · omega
  · omega
  · omega
  · exact n.lt b hb
  · exact t.lt b hb⟩
theorem get_lt {l : List Nat} (h : ∀ b ∈ l, b < 256) (i : Nat) : l.getD i 0 < 256 := by
  rw [List.getD]
  cases e : l[i]? with
  | none => simp
  | some b => simpa using h b (List.mem_of_getElem? e)
theorem Ky.k_lt (x : Ky) : x.k < 256 := get_lt x.lt 0
theorem Ky.p_lt (x : Ky) : x.p < 256 := get_lt x.lt 1
theorem Ky.a_lt (x : Ky) : x.a < 256 := get_lt x.lt 2
theorem mkK_k {k p a : Nat} {n : Nm.D.Nm} {t : Tg} (h : k < 256) : (mkK k p a n t).k = k := by simp [Ky.k, mkK]; omega
theorem mkK_p {k p a : Nat} {n : Nm.D.Nm} {t : Tg} (h : p < 256) : (mkK k p a n t).p = p := by simp [Ky.p, mkK]; omega
theorem mkK_a {k p a : Nat} {n : Nm.D.Nm} {t : Tg} (h : a < 256) : (mkK k p a n t).a = a := by simp [Ky.a, mkK]; omega
theorem mkK_n {k p a : Nat} {n : Nm.D.Nm} {t : Tg} : (mkK k p a n t).n = n := Nm.D.Nm.eq (by simp [Ky.n, mkK, n.len])
theorem mkK_t {k p a : Nat} {n : Nm.D.Nm} {t : Tg} : (mkK k p a n t).t = t := Tg.eq (by
  have := n.len
  simp only [Ky.t, mkK, show (15 : Nat) = n.l.length + 3 by omega, List.drop_succ_cons, List.drop_left])
theorem list3 {l : List Nat} (h : 3 ≤ l.length) : l = l.getD 0 0 :: l.getD 1 0 :: l.getD 2 0 :: l.drop 3 := by
  match l, h with
  | a :: b :: c :: r, _ => rfl
theorem mkK_eta (x : Ky) : mkK x.k x.p x.a x.n x.t = x := Ky.eq (by
  have h1 := x.k_lt; have h2 := x.p_lt; have h3 := x.a_lt
  have e : x.n.l ++ x.t.l = x.l.drop 3 := by
    simp only [Ky.n, Ky.t]
    rw [show x.l.drop 15 = (x.l.drop 3).drop 12 by rw [List.drop_drop], List.take_append_drop]
  show x.k % 256 :: x.p % 256 :: x.a % 256 :: (x.n.l ++ x.t.l) = x.l
  rw [Nat.mod_eq_of_lt h1, Nat.mod_eq_of_lt h2, Nat.mod_eq_of_lt h3, e]
  exact (list3 (by rw [x.len]; decide)).symm)
theorem Ky.ext {x y : Ky} (h1 : x.k = y.k) (h2 : x.p = y.p) (h3 : x.a = y.a) (h4 : x.n = y.n) (h5 : x.t = y.t) : x = y := by
  rw [← mkK_eta x, ← mkK_eta y, h1, h2, h3, h4, h5]
theorem Ky.l_eq (x : Ky) : x.l = x.k :: x.p :: x.a :: (x.n.l ++ x.t.l) := by
  have := congrArg Ky.l (mkK_eta x)
  have h1 := x.k_lt; have h2 := x.p_lt; have h3 := x.a_lt
  rw [← this]
  show x.k % 256 :: x.p % 256 :: x.a % 256 :: (x.n.l ++ x.t.l) = _
  rw [Nat.mod_eq_of_lt h1, Nat.mod_eq_of_lt h2, Nat.mod_eq_of_lt h3]

end D
end Go.Proofs.YtpiajeonnhfanaaDoor
