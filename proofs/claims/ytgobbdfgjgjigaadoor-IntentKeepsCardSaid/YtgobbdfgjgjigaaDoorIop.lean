/-
  Calls that came in, opened.
-/
import Derived.Test.YtgobbdfgjgjigaaDoorIac
import Derived.Test.YtgobbdfgjgjigaaDoorKopn
import Derived.Deep.Slices
import Derived.Deep.Fields
import Derived.ChangeSame
set_option linter.unusedVariables false
set_option linter.unusedSimpArgs false
set_option maxRecDepth 100000
namespace Go.Proofs.YtgobbdfgjgjigaaDoor
open Go.ChangeShapes Go.WideShapes Go.ChangeAt Go.RowKit Go.Deep
theorem wf_i64 {n : Int} (h : (Lit.int .i64 n).wf = true) : -9223372036854775808 ≤ n ∧ n ≤ 9223372036854775807 := by
  have h1 : IntKind.i64.min = -9223372036854775808 := by rfl
  have h2 : IntKind.i64.max = 9223372036854775807 := by rfl
  simpa [Lit.wf, h1, h2] using h
def D.Ia.wf (x : D.Ia) : Prop := -9223372036854775808 ≤ x.o ∧ x.o ≤ 9223372036854775807
section
variable {H : Type} {enc : TypeId × Value → H} {w : World} {base : Nat} {spare : Nat → Bool} {held : Bool}
theorem open_iact {fuel : Nat} {cs : List Value} {x : DataW H × List MemPlace} (h : DataW.trod enc Tryd.prog w base spare held fuel 36 cs = some x) :
    ∃ r : D.Ia, cs = icells r ∧ r.wf := by
  obtain ⟨xs, n, _, _, hl, hx, hf⟩ := DataW.trod_struct Tryd.underlying36 h
  have hC : Tryd.prog.cellsOf 36 = 52 := by kernel_rfl
  have cb : Tryd.prog.cellsOf 4 = 1 := by kernel_rfl
  have cK : Tryd.prog.cellsOf 30 = 25 := by kernel_rfl
  have ci : Tryd.prog.cellsOf 3 = 1 := by kernel_rfl
  rw [hC] at hl
  have h0 : DataW.trod enc Tryd.prog w base spare held n 4 ((cs.drop 0).take (Tryd.prog.cellsOf 4)) = xs[0]? := hf 0 _ rfl
  rw [cb] at h0
  have h1 : DataW.trod enc Tryd.prog w base spare held n 3 ((cs.drop 1).take (Tryd.prog.cellsOf 3)) = xs[1]? := hf 1 _ rfl
  rw [ci] at h1
  have h2 : DataW.trod enc Tryd.prog w base spare held n 30 ((cs.drop 2).take (Tryd.prog.cellsOf 30)) = xs[2]? := hf 2 _ rfl
  rw [cK] at h2
  have h3 : DataW.trod enc Tryd.prog w base spare held n 30 ((cs.drop 27).take (Tryd.prog.cellsOf 30)) = xs[3]? := hf 3 _ rfl
  rw [cK] at h3
  have x0 : xs[0]? = some (xs[0]'(by rw [hx]; decide)) := List.getElem?_eq_getElem _
  rw [x0] at h0
  have x1 : xs[1]? = some (xs[1]'(by rw [hx]; decide)) := List.getElem?_eq_getElem _
  rw [x1] at h1
  have x2 : xs[2]? = some (xs[2]'(by rw [hx]; decide)) := List.getElem?_eq_getElem _
  rw [x2] at h2
  have x3 : xs[3]? = some (xs[3]'(by rw [hx]; decide)) := List.getElem?_eq_getElem _
  rw [x3] at h3
  obtain ⟨z0, e0, _⟩ := DataW.trod_bool Tryd.underlying4 h0
  obtain ⟨z1, e1, _, w1⟩ := DataW.trod_int Tryd.underlying3 h1
  obtain ⟨y, e2⟩ := open_key h2
  obtain ⟨z, e3⟩ := open_key h3
  refine ⟨⟨z0, z1, y, z⟩, ?_, wf_i64 w1⟩
  have : cs = (cs.drop 0).take 1 ++ ((cs.drop 1).take 1 ++ ((cs.drop 2).take 25 ++ (cs.drop 27).take 25)) := by
    have a1 : cs = cs.take 1 ++ cs.drop 1 := (List.take_append_drop 1 cs).symm
    have a2 : cs.drop 1 = (cs.drop 1).take 1 ++ cs.drop 2 := by
      have := (List.take_append_drop 1 (cs.drop 1)).symm
      rwa [List.drop_drop] at this
    have a3 : cs.drop 2 = (cs.drop 2).take 25 ++ cs.drop 27 := by
      have := (List.take_append_drop 25 (cs.drop 2)).symm
      rwa [List.drop_drop] at this
    have a4 : cs.drop 27 = (cs.drop 27).take 25 := (List.take_of_length_le (by rw [List.length_drop, hl]; omega)).symm
    rw [List.drop_zero, ← a4, ← a3, ← a2, ← a1]
  rw [this, e0, e1, e2, e3]
  rfl
theorem open_shp {α : Type} (S : Shp α) (Pr : α → Prop) (z : α) {ST T : TypeId} (hu : Tryd.prog.underlying ST = some (.slice T)) (hC : Tryd.prog.cellsOf T = S.n)
    (hel : ∀ (fuel : Nat) (cs : List Value) (x : DataW H × List MemPlace), DataW.trod enc Tryd.prog w base spare held fuel T cs = some x → ∃ r : α, cs = S.cs r ∧ Pr r)
    {fuel : Nat} {cs : List Value} {x : DataW H × List MemPlace} (h : DataW.trod enc Tryd.prog w base spare held fuel ST cs = some x) :
    ∃ (A : Option Addr) (len cap : Nat) (l : List α), cs = [.slice A len cap] ∧ Shp.Row S w A len l ∧ (∀ r ∈ l, Pr r) ∧ len ≤ cap ∧ cap ≤ maxLen := by
  rcases open_slice hu h with ⟨rfl, _⟩ | ⟨a, len, cap, m, n, D', Pl, rfl, hb, hl, hm, hmm, _, hi⟩
  · exact ⟨none, 0, 0, [], rfl, Shp.Row.nil _ _, by simp, Nat.le_refl _, Nat.zero_le _⟩
  · have hlm : len ≤ m := by rw [hmm]; split <;> omega
    rw [hC] at hi
    have key : ∀ i, ∃ r : α, i < len → Pr r ∧ S.At w (a.add (i * S.n)) r := by
      intro i
      by_cases hlt : i < len
      · obtain ⟨cs', hc, ht⟩ := hi i (by omega)
        obtain ⟨r, rfl, hr⟩ := hel _ _ _ ht
        obtain ⟨_, _, hat⟩ := World.cells?_some hc
        refine ⟨r, fun _ => ⟨hr, fun j u hu => ?_⟩⟩
        have hj : j < S.n := by have := (List.getElem?_eq_some_iff.1 hu).1; rwa [S.len] at this
        have h1 := hat j (by omega)
        have h2 := (List.getElem?_eq_some_iff.1 hu).2
        rw [h1]
        simpa using hu
      · exact ⟨z, fun h => absurd h hlt⟩
    refine ⟨some a, len, cap, (List.range len).map fun i => Classical.choose (key i), rfl, ⟨by simp, fun hn => ⟨a, rfl, ?_, fun i y hy => ?_⟩⟩, ?_, hl, by omega⟩
    · have hu0 : (S.cs (Classical.choose (key 0)))[0]? = some ((S.cs (Classical.choose (key 0)))[0]'(by rw [S.len]; exact S.pos)) := List.getElem?_eq_getElem _
      have := World.block_lt_of_cell? w _ ((Classical.choose_spec (key 0) hn).2 0 _ hu0)
      rwa [block_of_add, block_of_add] at this
    · rw [List.getElem?_map] at hy
      have hlt : i < len := by
        rcases Nat.lt_or_ge i len with h | h
        · exact h
        · rw [List.getElem?_eq_none (by simp; omega)] at hy; simp at hy
      rw [List.getElem?_range hlt] at hy
      simp at hy
      subst hy
      exact (Classical.choose_spec (key i) hlt).2
    · intro r hr
      obtain ⟨i, hi', rfl⟩ := List.mem_map.1 hr
      exact (Classical.choose_spec (key i) (List.mem_range.1 hi')).1
theorem open_iacts {fuel : Nat} {cs : List Value} {x : DataW H × List MemPlace} (h : DataW.trod enc Tryd.prog w base spare held fuel 22 cs = some x) :
    ∃ (A : Option Addr) (len cap : Nat) (l : List D.Ia), cs = [.slice A len cap] ∧ Shp.Row iS w A len l ∧ (∀ r ∈ l, r.wf) ∧ len ≤ cap ∧ cap ≤ maxLen :=
  open_shp iS D.Ia.wf ⟨false, 0, D.zK, D.zK⟩ Tryd.underlying22 (by kernel_rfl) (fun _ _ _ h => open_iact h) h
end
end Go.Proofs.YtgobbdfgjgjigaaDoor
