/-
  Calls that came in, opened.
-/
import Derived.Test.YtkhjnfplcaffnaaDa
import Derived.Test.YtkhjnfplcaffnaaKopn
import Derived.Deep.Slices
import Derived.Deep.Fields
import Derived.ChangeSame
set_option linter.unusedVariables false
set_option linter.unusedSimpArgs false
set_option maxRecDepth 100000
namespace Go.Proofs.Ytkhjnfplcaffnaa
open Go.ChangeShapes Go.WideShapes Go.ChangeAt Go.RowKit Go.Deep
section
variable {H : Type} {enc : TypeId × Value → H} {w : World} {base : Nat} {spare : Nat → Bool} {held : Bool}
theorem open_act {fuel : Nat} {cs : List Value} {x : DataW H × List MemPlace} (h : DataW.trod enc Try.prog w base spare held fuel 35 cs = some x) :
    ∃ r : Kac, cs = kacells r ∧ True := by
  obtain ⟨xs, n, _, _, hl, hx, hf⟩ := DataW.trod_struct Try.underlying35 h
  have hC : Try.prog.cellsOf 35 = 27 := by kernel_rfl
  have cb : Try.prog.cellsOf 4 = 1 := by kernel_rfl
  have cK : Try.prog.cellsOf 30 = 25 := by kernel_rfl
  have ci : Try.prog.cellsOf 3 = 1 := by kernel_rfl
  rw [hC] at hl
  have h0 : DataW.trod enc Try.prog w base spare held n 4 ((cs.drop 0).take (Try.prog.cellsOf 4)) = xs[0]? := hf 0 _ rfl
  rw [cb] at h0
  have h1 : DataW.trod enc Try.prog w base spare held n 30 ((cs.drop 1).take (Try.prog.cellsOf 30)) = xs[1]? := hf 1 _ rfl
  rw [cK] at h1
  have h2 : DataW.trod enc Try.prog w base spare held n 3 ((cs.drop 26).take (Try.prog.cellsOf 3)) = xs[2]? := hf 2 _ rfl
  rw [ci] at h2
  have x0 : xs[0]? = some (xs[0]'(by rw [hx]; decide)) := List.getElem?_eq_getElem _
  rw [x0] at h0
  have x1 : xs[1]? = some (xs[1]'(by rw [hx]; decide)) := List.getElem?_eq_getElem _
  rw [x1] at h1
  have x2 : xs[2]? = some (xs[2]'(by rw [hx]; decide)) := List.getElem?_eq_getElem _
  rw [x2] at h2
  obtain ⟨z0, e0, _⟩ := DataW.trod_bool Try.underlying4 h0
  obtain ⟨y, e1⟩ := open_key h1
  obtain ⟨z2, e2, _, _⟩ := DataW.trod_int Try.underlying3 h2
  refine ⟨⟨z0, y, z2⟩, ?_, trivial⟩
  have : cs = (cs.drop 0).take 1 ++ ((cs.drop 1).take 25 ++ (cs.drop 26).take 1) := by
    apply List.ext_getElem?
    intro i
    rw [List.getElem?_append, List.getElem?_append]
    simp only [List.drop_zero, List.length_take, List.length_drop, hl, List.getElem?_take, List.getElem?_drop]
    by_cases h1 : i < 1
    · simp [h1]
    · by_cases h2 : i < 26
      · have h3 : i - 1 < 25 := by omega
        have h4 : 1 + (i - 1) = i := by omega
        simp [h1, h3, h4]
      · by_cases h3 : i < 27
        · have h4 : i = 26 := by omega
          subst h4
          simp
        · have h4 : ¬ i - 1 < 25 := by omega
          have h5 : ¬ i - 1 - 25 < 1 := by omega
          rw [List.getElem?_eq_none (by omega)]
          simp [h1, h4, h5]
  rw [this, e0, e1, e2]
  rfl
theorem open_shp {α : Type} (S : Shp α) (Pr : α → Prop) (z : α) {ST T : TypeId} (hu : Try.prog.underlying ST = some (.slice T)) (hC : Try.prog.cellsOf T = S.n)
    (hel : ∀ (fuel : Nat) (cs : List Value) (x : DataW H × List MemPlace), DataW.trod enc Try.prog w base spare held fuel T cs = some x → ∃ r : α, cs = S.cs r ∧ Pr r)
    {fuel : Nat} {cs : List Value} {x : DataW H × List MemPlace} (h : DataW.trod enc Try.prog w base spare held fuel ST cs = some x) :
    ∃ (A : Option Addr) (len cap : Nat) (l : List α), cs = [.slice A len cap] ∧ Shp.Row S w A len l ∧ (∀ r ∈ l, Pr r) ∧ len ≤ cap ∧ cap ≤ maxLen := by
  rcases open_slice hu h with ⟨rfl, _⟩ | ⟨a, len, cap, m, n, D', Pl, rfl, hb, hl, hm, hmm, _, hi⟩
  · exact ⟨none, 0, 0, [], rfl, Shp.Row.nil _ _, by simp, Nat.le_refl _, Nat.zero_le _⟩
  · have hlm : len ≤ m := by rw [hmm]; split <;> omega
    rw [hC] at hi
    have key : ∀ i, ∃ r : α, i < len → Pr r ∧ S.At w (a.add (i * S.n)) r := by
      intro i
      by_cases hlt : i < len
      · obtain ⟨cs', hc, ht⟩ := hi i (by omega)
        obtain ⟨r, rfl, hr⟩ := hel _ _ _ ht
        obtain ⟨_, _, hat⟩ := World.cells?_some hc
        refine ⟨r, fun _ => ⟨hr, fun j u hu => ?_⟩⟩
        have hj : j < S.n := by have := (List.getElem?_eq_some_iff.1 hu).1; rwa [S.len] at this
        have h1 := hat j (by omega)
        have h2 := (List.getElem?_eq_some_iff.1 hu).2
        rw [h1]
        simpa using hu
      · exact ⟨z, fun h => absurd h hlt⟩
    refine ⟨some a, len, cap, (List.range len).map fun i => Classical.choose (key i), rfl, ⟨by simp, fun hn => ⟨a, rfl, ?_, fun i y hy => ?_⟩⟩, ?_, hl, by omega⟩
    · have hu0 : (S.cs (Classical.choose (key 0)))[0]? = some ((S.cs (Classical.choose (key 0)))[0]'(by rw [S.len]; exact S.pos)) := List.getElem?_eq_getElem _
      have := World.block_lt_of_cell? w _ ((Classical.choose_spec (key 0) hn).2 0 _ hu0)
      rwa [block_of_add, block_of_add] at this
    · rw [List.getElem?_map] at hy
      have hlt : i < len := by
        rcases Nat.lt_or_ge i len with h | h
        · exact h
        · rw [List.getElem?_eq_none (by simp; omega)] at hy; simp at hy
      rw [List.getElem?_range hlt] at hy
      simp at hy
      subst hy
      exact (Classical.choose_spec (key i) hlt).2
    · intro r hr
      obtain ⟨i, hi', rfl⟩ := List.mem_map.1 hr
      exact (Classical.choose_spec (key i) (List.mem_range.1 hi')).1
theorem open_acts {fuel : Nat} {cs : List Value} {x : DataW H × List MemPlace} (h : DataW.trod enc Try.prog w base spare held fuel 22 cs = some x) :
    ∃ (A : Option Addr) (len cap : Nat) (l : List Kac), cs = [.slice A len cap] ∧ Shp.Row aS w A len l ∧ len ≤ cap ∧ cap ≤ maxLen := by
  obtain ⟨A, len, cap, l, h1, h2, _, h3, h4⟩ := open_shp aS (fun _ => True) ⟨false, D.zK, 0⟩ Try.underlying22 (by kernel_rfl) (fun _ _ _ h => open_act h) h
  exact ⟨A, len, cap, l, h1, h2, h3, h4⟩
end
end Go.Proofs.Ytkhjnfplcaffnaa
