/-
  A slice of fields that came in, opened.
-/
import Derived.Test.YtnihkpcfnkimoaaRight
import Derived.Deep.Slices
import Derived.Deep.Fields
import Derived.ChangeSame
set_option linter.unusedVariables false
set_option linter.unusedSimpArgs false
namespace Go.Proofs.Ytnihkpcfnkimoaa
open Go.RowKit Go.ChangeShapes Go.WideShapes Go.Deep

section
variable {H : Type} {enc : TypeId × Value → H} {w : World} {base : Nat} {spare : Nat → Bool} {held : Bool}
theorem one_field {fuel : Nat} {cs : List Value} {x : DataW H × List MemPlace} (h : DataW.trod enc Try.prog w base spare held fuel 29 cs = some x) :
    ∃ f : D.Fd, cs = [.int .i64 f.k, .int .u64 f.n, .string f.s] ∧ Raw f := by
  obtain ⟨xs, n, _, _, hl, hx, hf⟩ := DataW.trod_struct Try.underlying29 h
  have hC : Try.prog.cellsOf 29 = 3 := by kernel_rfl
  have c3 : Try.prog.cellsOf 3 = 1 := by kernel_rfl
  have c27 : Try.prog.cellsOf 27 = 1 := by kernel_rfl
  have c9 : Try.prog.cellsOf 9 = 1 := by kernel_rfl
  rw [hC] at hl
  have h0 : DataW.trod enc Try.prog w base spare held n 3 ((cs.drop 0).take (Try.prog.cellsOf 3)) = xs[0]? := hf 0 _ rfl
  have h1 : DataW.trod enc Try.prog w base spare held n 27 ((cs.drop 1).take (Try.prog.cellsOf 27)) = xs[1]? := hf 1 _ rfl
  have h2 : DataW.trod enc Try.prog w base spare held n 9 ((cs.drop 2).take (Try.prog.cellsOf 9)) = xs[2]? := hf 2 _ rfl
  rw [c3] at h0
  rw [c27] at h1
  rw [c9] at h2
  match cs, hl with
  | [a, b, c], _ =>
    have x0 : xs[0]? = some (xs[0]'(by rw [hx]; decide)) := List.getElem?_eq_getElem _
    have x1 : xs[1]? = some (xs[1]'(by rw [hx]; decide)) := List.getElem?_eq_getElem _
    have x2 : xs[2]? = some (xs[2]'(by rw [hx]; decide)) := List.getElem?_eq_getElem _
    rw [x0] at h0
    rw [x1] at h1
    rw [x2] at h2
    obtain ⟨z, e0, _, w0⟩ := DataW.trod_int Try.underlying3 h0
    obtain ⟨y, e1, _, w1⟩ := DataW.trod_int Try.underlying27 h1
    obtain ⟨s, e2, _, w2⟩ := DataW.trod_string Try.underlying9 h2
    simp at e0 e1 e2
    subst e0 e1 e2
    have b0 := bounds_i64 w0
    have b1 := bounds_u64 w1
    refine ⟨⟨z, y.toNat, s⟩, ?_, b0.1, b0.2, by simp only; omega, w2⟩
    simp only
    rw [Int.toNat_of_nonneg b1.1]
theorem open_fields {fuel : Nat} {cs : List Value} {x : DataW H × List MemPlace} (h : DataW.trod enc Try.prog w base spare held fuel 22 cs = some x) :
    ∃ (A : Option Addr) (len cap : Nat) (l : List D.Fd), cs = [.slice A len cap] ∧ FRow w A len l ∧ (∀ f ∈ l, Raw f) ∧ len ≤ maxLen := by
  rcases open_slice Try.underlying22 h with ⟨rfl, _⟩ | ⟨a, len, cap, m, n, D', Pl, rfl, hb, hl, hm, hmm, _, hi⟩
  · exact ⟨none, 0, 0, [], rfl, ⟨rfl, fun h => absurd h (by omega)⟩, by simp, Nat.zero_le _⟩
  · have hlm : len ≤ m := by rw [hmm]; split <;> omega
    have hC : Try.prog.cellsOf 29 = 3 := by kernel_rfl
    rw [hC] at hi
    have key : ∀ i, ∃ f : D.Fd, i < len → Raw f ∧ w.cell? (a.add (i * 3)) = some (.int .i64 f.k) ∧ w.cell? (a.add (i * 3 + 1)) = some (.int .u64 f.n) ∧ w.cell? (a.add (i * 3 + 2)) = some (.string f.s) := by
      intro i
      by_cases hlt : i < len
      · obtain ⟨cs', hc, ht⟩ := hi i (by omega)
        obtain ⟨f, rfl, hr⟩ := one_field ht
        obtain ⟨_, _, hat⟩ := World.cells?_some hc
        refine ⟨f, fun _ => ⟨hr, ?_, ?_, ?_⟩⟩
        · have := hat 0 (by omega); rw [add_of_add] at this; exact this
        · have := hat 1 (by omega); rw [add_of_add] at this; exact this
        · have := hat 2 (by omega); rw [add_of_add] at this; exact this
      · exact ⟨⟨0, 0, ⟨#[]⟩⟩, fun h => absurd h hlt⟩
    refine ⟨some a, len, cap, (List.range len).map fun i => Classical.choose (key i), rfl, ⟨by simp, fun hn => ⟨a, rfl, ?_, fun i f hf => ?_⟩⟩, ?_, by omega⟩
    · have := World.block_lt_of_cell? w _ (Classical.choose_spec (key 0) hn).2.1
      rwa [block_of_add] at this
    · rw [List.getElem?_map] at hf
      have hlt : i < len := by
        rcases Nat.lt_or_ge i len with h | h
        · exact h
        · rw [List.getElem?_eq_none (by simp; omega)] at hf; simp at hf
      rw [List.getElem?_range hlt] at hf
      simp at hf
      subst hf
      exact (Classical.choose_spec (key i) hlt).2
    · intro f hf
      obtain ⟨i, hi', rfl⟩ := List.mem_map.1 hf
      exact (Classical.choose_spec (key i) (List.mem_range.1 hi')).1
theorem open_bytes {fuel : Nat} {cs : List Value} {x : DataW H × List MemPlace} (h : DataW.trod enc Try.prog w base spare held fuel 30 cs = some x) :
    ∃ (A : Option Addr) (len cap : Nat) (l : List Nat), cs = [.slice A len cap] ∧ Row w A len (bys l) ∧ (∀ b ∈ l, b < 256) ∧ len ≤ cap ∧ cap ≤ maxLen := by
  rcases open_ints Try.underlying30 Try.underlying5 (by kernel_rfl) h with ⟨rfl, _⟩ | ⟨a, len, cap, zs, rfl, _, hl, hm, hz, _, hcell, hwz⟩
  · exact ⟨none, 0, 0, [], rfl, Row.nil _ _, by simp, Nat.le_refl _, by simp [maxLen]⟩
  · have hzl : len ≤ zs.length := by rw [hz]; split <;> omega
    refine ⟨some a, len, cap, (zs.take len).map Int.toNat, rfl, ⟨by simp [bys]; omega, fun hn => ⟨a, rfl, ?_, fun j u hu => ?_⟩⟩, ?_, hl, hm⟩
    · have := World.block_lt_of_cell? w _ (hcell 0 (by omega))
      rwa [block_of_add] at this
    · have hj : j < len := by
        have := (List.getElem?_eq_some_iff.1 hu).1
        simp [bys] at this
        omega
      have hq : zs[j]? = some (zs[j]'(by omega)) := List.getElem?_eq_getElem _
      rw [hcell j (by omega), List.getD_eq_getElem?_getD, hq]
      simp only [bys, List.getElem?_map, List.getElem?_take, if_pos hj, hq, Option.map_some] at hu
      rw [← hu]
      have := (bounds_u8 (hwz _ (List.getElem_mem (l := zs) (n := j) (by omega)))).1
      simp only [Option.getD_some]
      rw [Int.toNat_of_nonneg this]
    · intro b hb
      obtain ⟨z, hz', rfl⟩ := List.mem_map.1 hb
      have := bounds_u8 (hwz z (List.mem_of_mem_take hz'))
      omega
end
end Go.Proofs.Ytnihkpcfnkimoaa
