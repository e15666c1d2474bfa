/-
  What two chains have both: mathematics.
-/
import Derived.Test.YtgbnaammphilhaaDoorChm
set_option linter.unusedVariables false
set_option linter.unusedSimpArgs false
namespace Go.Proofs.YtgbnaammphilhaaDoor

theorem cht_len_lt {y z : D.Tg} (hz : D.right z = true) (h : y ∈ D.cht z) (hne : y ≠ z) : (D.cht y).length < (D.cht z).length := by
  obtain ⟨k, hk⟩ := List.mem_iff_getElem?.1 h
  have L := lnk_any hz k y hk
  have hlt := (List.getElem?_eq_some_iff.1 hk).1
  have hk0 : k ≠ 0 := by
    rintro rfl
    rw [cht_first hz] at hk
    injection hk with hk
    exact hne hk.symm
  rw [← L.drop, List.length_drop]
  omega
theorem mem_right {y z : D.Tg} (hz : D.right z = true) (h : y ∈ D.cht z) : D.right y = true := by
  obtain ⟨k, hk⟩ := List.mem_iff_getElem?.1 h
  exact (lnk_any hz k y hk).right
/-- Of a chain's tags those from one on are that one's chain. -/
theorem split_cht {x y : D.Tg} {us bs : List D.Tg} (hx : D.right x = true) (h : D.cht x = us ++ y :: bs) : y :: bs = D.cht y := by
  have hk : (D.cht x)[us.length]? = some y := by rw [h]; simp
  have := (lnk_any hx us.length y hk).drop
  rw [h, List.drop_left] at this
  exact this
theorem find_some {c l : List D.Tg} {y : D.Tg} (h : D.find c l = some y) : y ∈ l ∧ ∃ us bs, c = us ++ y :: bs ∧ ∀ z ∈ us, z ∉ l := by
  unfold D.find at h
  rw [List.find?_eq_some_iff_append] at h
  obtain ⟨h1, us, bs, h2, h3⟩ := h
  exact ⟨by simpa using h1, us, bs, h2, fun z hz => by simpa using h3 z hz⟩
theorem common_some {a b : D.Tg} (ha : D.right a = true) (hb : D.right b = true) : ∃ y, D.find (D.cht a) (D.cht b) = some y := by
  cases h : D.find (D.cht a) (D.cht b) with
  | some y => exact ⟨y, rfl⟩
  | none =>
    have := List.find?_eq_none.1 h D.zero (List.mem_of_getElem? (cht_last ha))
    exact absurd (List.mem_of_getElem? (cht_last hb)) (by simpa using this)
theorem common_comm {a b : D.Tg} (ha : D.right a = true) (hb : D.right b = true) : D.common a b = D.common b a := by
  obtain ⟨y, hy⟩ := common_some ha hb
  obtain ⟨z, hz⟩ := common_some hb ha
  unfold D.common
  rw [hy, hz]
  obtain ⟨yb, us, us', h1, n1⟩ := find_some hy
  obtain ⟨za, bs, bs', h2, n2⟩ := find_some hz
  have ya : y ∈ D.cht a := by rw [h1]; simp
  have zb : z ∈ D.cht b := by rw [h2]; simp
  have ry := mem_right ha ya
  have rz := mem_right hb zb
  have e1 := split_cht ha h1
  have e2 := split_cht hb h2
  have m1 : y ∈ D.cht z := by
    rw [h2] at yb
    rcases List.mem_append.1 yb with h | h
    · exact absurd ya (n2 y h)
    · rw [← e2]; exact h
  have m2 : z ∈ D.cht y := by
    rw [h1] at za
    rcases List.mem_append.1 za with h | h
    · exact absurd zb (n1 z h)
    · rw [← e1]; exact h
  by_cases e : y = z
  · rw [e]
  · have l1 := cht_len_lt rz m1 e
    have l2 := cht_len_lt ry m2 (fun h => e h.symm)
    omega
theorem below_iff {a b : D.Tg} : D.below a b = decide (b ∈ D.cht a) := by
  unfold D.below
  rw [Bool.eq_iff_iff, Option.isSome_iff_exists, decide_eq_true_eq]
  constructor
  · rintro ⟨y, hy⟩
    obtain ⟨h1, us, bs, h2, _⟩ := find_some hy
    rw [List.mem_singleton] at h1
    subst h1
    rw [h2]; simp
  · intro h
    cases hf : D.find (D.cht a) [b] with
    | some y => exact ⟨y, rfl⟩
    | none =>
      have := List.find?_eq_none.1 hf b h
      simp at this
/-- The right ones, us parts. -/
def rights (l : List D.Tg) : List D.Pt := l.filterMap D.pt
theorem rights_can {l : List D.Tg} : ∀ p ∈ rights l, D.Can p := fun p hp => by
  obtain ⟨x, _, h⟩ := List.mem_filterMap.1 hp
  exact (D.pt_some h).1
theorem rights_iff {l : List D.Tg} {q : D.Pt} (hq : D.Can q) : q ∈ rights l ↔ D.tb q ∈ l := by
  unfold rights
  rw [List.mem_filterMap]
  constructor
  · rintro ⟨x, hx, h⟩
    rw [(D.pt_some h).2]; exact hx
  · intro h
    exact ⟨D.tb q, h, D.pt_tb hq⟩
theorem rights_next {l : List D.Tg} {k : Nat} {x : D.Tg} (hx : l[k]? = some x) : rights (l.take (k + 1)) = rights (l.take k) ++ (match D.pt x with
    | none => []
    | some q => [q]) := by
  rw [List.take_add_one, hx]
  unfold rights
  rw [List.filterMap_append]
  cases h : D.pt x <;> simp [h]
end Go.Proofs.YtgbnaammphilhaaDoor
