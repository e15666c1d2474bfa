/-
  More of keys as plain numbers: the document's keys, prefixes.
-/
import Derived.Test.YtgobbdfgjgjigaaGreatDoorKCel
set_option linter.unusedVariables false
set_option linter.unusedSimpArgs false
set_option maxRecDepth 100000
namespace Go.Proofs.YtgobbdfgjgjigaaGreatDoor
namespace D
theorem Rk.eq {x y : Rk} (h1 : x.k = y.k) (h2 : x.p = y.p) (h3 : x.a = y.a) (h4 : x.n = y.n) (h5 : x.t = y.t) : x = y := by
  cases x; cases y; simp only at h1 h2 h3 h4 h5; subst h1; subst h2; subst h3; subst h4; subst h5; rfl
instance : DecidableEq Rk := fun x y => decidable_of_iff (x.k = y.k ∧ x.p = y.p ∧ x.a = y.a ∧ x.n = y.n ∧ x.t = y.t) ⟨fun ⟨h1, h2, h3, h4, h5⟩ => Rk.eq h1 h2 h3 h4 h5, fun h => by subst h; exact ⟨rfl, rfl, rfl, rfl, rfl⟩⟩
def zR : Rk := ⟨0, 0, 0, Nm.D.zero, zero, by decide, by decide, by decide⟩
/-- A key's parts up to a depth. -/
def upto (x : Ky) (d : Int) : Ky :=
  if d = 0 then zK else if d = 1 then mkK x.k 0 0 Nm.D.zero zero else if d = 2 then mkK x.k x.p 0 Nm.D.zero zero else if d = 3 then mkK x.k x.p x.a Nm.D.zero zero else if d = 4 then mkK x.k x.p x.a x.n zero else x
def has (p : Ky) (d : Int) (x : Ky) : Bool := decide (0 ≤ d ∧ d ≤ 5 ∧ upto p d = upto x d)
end D
theorem kS_sm (x y : D.Ky) : kS.sm x y = decide (x = y) := by unfold Shp.sm; congr
end Go.Proofs.YtgobbdfgjgjigaaGreatDoor
