/-
  A name, and a slice of names, that came in, opened.
-/
import Derived.Test.YtgfpdfafkimkcaaKnown
import Derived.Deep.Slices
import Derived.ChangeSame
import Derived.OpenShut
set_option linter.unusedVariables false
set_option linter.unusedSimpArgs false
namespace Go.Proofs.Ytgfpdfafkimkcaa
open Go.RowKit Go.ChangeShapes Go.WideShapes Go.Deep

section
variable {H : Type} {enc : TypeId × Value → H} {w : World} {base : Nat} {spare : Nat → Bool} {held : Bool}
theorem open_name {fuel : Nat} {cs : List Value} {x : DataW H × List MemPlace} (h : DataW.trod enc Try.prog w base spare held fuel 23 cs = some x) : ∃ y : D.Nm, cs = bys y.l := by
  obtain ⟨xs, m, _, _, hl, hx, hf⟩ := DataW.trod_array Try.underlying23 h
  have hC : Try.prog.cellsOf 23 = 12 := by kernel_rfl
  rw [hC] at hl
  have key : ∀ i, ∃ b : Nat, i < 12 → b < 256 ∧ cs[i]? = some (.int .u8 b) := by
    intro i
    by_cases hi : i < 12
    · have h1 := hf i hi
      rw [cells_u8, Nat.mul_one] at h1
      have x0 : xs[i]? = some (xs[i]'(by rw [hx]; exact hi)) := List.getElem?_eq_getElem _
      rw [x0] at h1
      obtain ⟨z, e0, _, w0⟩ := DataW.trod_int Try.underlying5 h1
      have hb := bounds_u8 w0
      refine ⟨z.toNat, fun _ => ⟨by omega, ?_⟩⟩
      rw [Int.toNat_of_nonneg hb.1]
      have : ((cs.drop i).take 1)[0]? = some (.int .u8 z) := by rw [e0]; rfl
      rwa [List.getElem?_take_of_lt (by omega), List.getElem?_drop, Nat.add_zero] at this
    · exact ⟨0, fun h => absurd h hi⟩
  refine ⟨⟨(List.range 12).map fun i => Classical.choose (key i), by simp, ?_⟩, ?_⟩
  · intro b hb
    obtain ⟨i, hi, rfl⟩ := List.mem_map.1 hb
    exact (Classical.choose_spec (key i) (List.mem_range.1 hi)).1
  · apply List.ext_getElem?
    intro i
    by_cases hi : i < 12
    · rw [(Classical.choose_spec (key i) hi).2]
      simp only [bys, List.map_map, List.getElem?_map]
      rw [List.getElem?_range hi]
      rfl
    · rw [List.getElem?_eq_none (by omega), List.getElem?_eq_none (by rw [bys_len]; simp; omega)]
theorem open_names {fuel : Nat} {cs : List Value} {x : DataW H × List MemPlace} (h : DataW.trod enc Try.prog w base spare held fuel 37 cs = some x) :
    ∃ (A : Option Addr) (len cap : Nat) (l : List D.Nm), cs = [.slice A len cap] ∧ NRow w A len l ∧ len ≤ cap ∧ cap ≤ maxLen := by
  rcases open_slice Try.underlying37 h with ⟨rfl, _⟩ | ⟨a, len, cap, m, n, D', Pl, rfl, hb, hl, hm, hmm, _, hi⟩
  · exact ⟨none, 0, 0, [], rfl, NRow.nil _ _, Nat.le_refl _, Nat.zero_le _⟩
  · have hlm : len ≤ m := by rw [hmm]; split <;> omega
    have hC : Try.prog.cellsOf 23 = 12 := by kernel_rfl
    rw [hC] at hi
    have key : ∀ i, ∃ y : D.Nm, i < len → At w (a.add (i * 12)) y := by
      intro i
      by_cases hlt : i < len
      · obtain ⟨cs', hc, ht⟩ := hi i (by omega)
        obtain ⟨y, rfl⟩ := open_name ht
        obtain ⟨_, _, hat⟩ := World.cells?_some hc
        refine ⟨y, fun _ => fun j u hu => ?_⟩
        have hj : j < 12 := by
          have := (List.getElem?_eq_some_iff.1 hu).1
          rwa [bys_len, y.len] at this
        rw [hat j hj, hu]
      · exact ⟨D.zero, fun h => absurd h hlt⟩
    refine ⟨some a, len, cap, (List.range len).map fun i => Classical.choose (key i), rfl, ⟨by simp, fun hn => ⟨a, rfl, ?_, fun i y hy => ?_⟩⟩, hl, hm⟩
    · have := rd_lt (rd_of (Classical.choose_spec (key 0) hn))
      rwa [block_of_add] at this
    · rw [List.getElem?_map] at hy
      have hlt : i < len := by
        rcases Nat.lt_or_ge i len with h | h
        · exact h
        · rw [List.getElem?_eq_none (by simp; omega)] at hy; simp at hy
      rw [List.getElem?_range hlt] at hy
      simp at hy
      subst hy
      exact Classical.choose_spec (key i) hlt
end
end Go.Proofs.Ytgfpdfafkimkcaa
