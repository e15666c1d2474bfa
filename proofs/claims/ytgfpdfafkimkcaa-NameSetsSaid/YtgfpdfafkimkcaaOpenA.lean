/-
  A slice of acts that came in, opened.
-/
import Derived.Test.YtgfpdfafkimkcaaSetsWalk
import Derived.Test.YtgfpdfafkimkcaaOpen
set_option linter.unusedVariables false
set_option linter.unusedSimpArgs false
namespace Go.Proofs.Ytgfpdfafkimkcaa
open Go.RowKit Go.ChangeShapes Go.WideShapes Go.Deep

section
variable {H : Type} {enc : TypeId × Value → H} {w : World} {base : Nat} {spare : Nat → Bool} {held : Bool}
theorem open_act {fuel : Nat} {cs : List Value} {x : DataW H × List MemPlace} (h : DataW.trod enc Try.prog w base spare held fuel 50 cs = some x) : ∃ y : D.Ac, cs = ac y := by
  obtain ⟨xs, m, _, _, hl, hx, hf⟩ := DataW.trod_struct Try.underlying50 h
  have hC : Try.prog.cellsOf 50 = 25 := by kernel_rfl
  have hCb : Try.prog.cellsOf 4 = 1 := by kernel_rfl
  have hCn : Try.prog.cellsOf 23 = 12 := by kernel_rfl
  rw [hC] at hl
  have hx3 : xs.length = 3 := hx
  have h0 : DataW.trod enc Try.prog w base spare held m 4 ((cs.drop 0).take (Try.prog.cellsOf 4)) = xs[0]? := hf 0 _ rfl
  have h1 : DataW.trod enc Try.prog w base spare held m 23 ((cs.drop 1).take (Try.prog.cellsOf 23)) = xs[1]? := hf 1 _ rfl
  have h2 : DataW.trod enc Try.prog w base spare held m 23 ((cs.drop 13).take (Try.prog.cellsOf 23)) = xs[2]? := hf 2 _ rfl
  rw [hCb] at h0
  rw [hCn] at h1 h2
  rw [List.getElem?_eq_getElem (show 0 < xs.length by omega)] at h0
  rw [List.getElem?_eq_getElem (show 1 < xs.length by omega)] at h1
  rw [List.getElem?_eq_getElem (show 2 < xs.length by omega)] at h2
  obtain ⟨o, e0, _⟩ := DataW.trod_bool Try.underlying4 h0
  obtain ⟨a, e1⟩ := open_name h1
  obtain ⟨b, e2⟩ := open_name h2
  refine ⟨⟨o, a, b⟩, ?_⟩
  show cs = .bool o :: (bys a.l ++ bys b.l)
  rw [← e1, ← e2]
  have e3 : cs.take 1 = [.bool o] := by simpa using e0
  have e4 : cs = cs.take 1 ++ ((cs.drop 1).take 12 ++ (cs.drop 13).take 12) := by
    have a1 : (cs.drop 13).take 12 = (cs.drop 1).drop 12 := by
      rw [List.drop_drop, List.take_of_length_le (by simp; omega)]
    rw [a1, List.take_append_drop, List.take_append_drop]
  rw [e3] at e4
  exact e4
theorem open_acts {fuel : Nat} {cs : List Value} {x : DataW H × List MemPlace} (h : DataW.trod enc Try.prog w base spare held fuel 45 cs = some x) :
    ∃ (A : Option Addr) (len cap : Nat) (l : List D.Ac), cs = [.slice A len cap] ∧ ARow w A len l ∧ len ≤ cap ∧ cap ≤ maxLen := by
  rcases open_slice Try.underlying45 h with ⟨rfl, _⟩ | ⟨a, len, cap, m, n, D', Pl, rfl, hb, hl, hm, hmm, _, hi⟩
  · exact ⟨none, 0, 0, [], rfl, ARow.nil _ _, Nat.le_refl _, Nat.zero_le _⟩
  · have hlm : len ≤ m := by rw [hmm]; split <;> omega
    have hC : Try.prog.cellsOf 50 = 25 := by kernel_rfl
    rw [hC] at hi
    have key : ∀ i, ∃ y : D.Ac, i < len → AAt w (a.add (i * 25)) y := by
      intro i
      by_cases hlt : i < len
      · obtain ⟨cs', hc, ht⟩ := hi i (by omega)
        obtain ⟨y, rfl⟩ := open_act ht
        obtain ⟨_, _, hat⟩ := World.cells?_some hc
        refine ⟨y, fun _ => fun j u hu => ?_⟩
        have hj : j < 25 := by
          have := (List.getElem?_eq_some_iff.1 hu).1
          rwa [ac_len] at this
        rw [hat j hj, hu]
      · exact ⟨⟨false, D.zero, D.zero⟩, fun h => absurd h hlt⟩
    refine ⟨some a, len, cap, (List.range len).map fun i => Classical.choose (key i), rfl, ⟨by simp, fun hn => ⟨a, rfl, ?_, fun i y hy => ?_⟩⟩, hl, hm⟩
    · have h0 := Classical.choose_spec (key 0) hn
      have e1 : (ac (Classical.choose (key 0)))[0]? = some (.bool (Classical.choose (key 0)).out) := rfl
      have := World.block_lt_of_cell? w _ (h0 0 _ e1)
      rwa [block_of_add, block_of_add] at this
    · rw [List.getElem?_map] at hy
      have hlt : i < len := by
        rcases Nat.lt_or_ge i len with h | h
        · exact h
        · rw [List.getElem?_eq_none (by simp; omega)] at hy; simp at hy
      rw [List.getElem?_range hlt] at hy
      simp at hy
      subst hy
      exact Classical.choose_spec (key i) hlt
end
end Go.Proofs.Ytgfpdfafkimkcaa
