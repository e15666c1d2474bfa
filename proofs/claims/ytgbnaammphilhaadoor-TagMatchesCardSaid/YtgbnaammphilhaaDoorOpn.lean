/-
  An array of ten bytes, a tag, and a slice of tags, that came in, opened.
-/
import Derived.Test.YtgbnaammphilhaaDoorRow
import Derived.Deep.Slices
import Derived.ChangeSame
import Derived.OpenShut
set_option linter.unusedVariables false
set_option linter.unusedSimpArgs false
namespace Go.Proofs.YtgbnaammphilhaaDoor
open Go.RowKit Go.ChangeShapes Go.WideShapes Go.Deep

section
variable {H : Type} {enc : TypeId × Value → H} {w : World} {base : Nat} {spare : Nat → Bool} {held : Bool}
theorem open_bytes (t : TypeId) (n : Nat) (hu : Tryd.prog.underlying t = some (.array n 5)) (hC : Tryd.prog.cellsOf t = n) {fuel : Nat} {cs : List Value} {x : DataW H × List MemPlace} (h : DataW.trod enc Tryd.prog w base spare held fuel t cs = some x) :
    ∃ l : List Nat, l.length = n ∧ (∀ b ∈ l, b < 256) ∧ cs = bys l := by
  obtain ⟨xs, m, _, _, hl, hx, hf⟩ := DataW.trod_array hu h
  rw [hC] at hl
  have key : ∀ i, ∃ b : Nat, i < n → b < 256 ∧ cs[i]? = some (.int .u8 b) := by
    intro i
    by_cases hi : i < n
    · have h1 := hf i hi
      rw [cells_u8, Nat.mul_one] at h1
      have x0 : xs[i]? = some (xs[i]'(by rw [hx]; exact hi)) := List.getElem?_eq_getElem _
      rw [x0] at h1
      obtain ⟨z, e0, _, w0⟩ := DataW.trod_int Tryd.underlying5 h1
      have hb := bounds_u8 w0
      refine ⟨z.toNat, fun _ => ⟨by omega, ?_⟩⟩
      rw [Int.toNat_of_nonneg hb.1]
      have : ((cs.drop i).take 1)[0]? = some (.int .u8 z) := by rw [e0]; rfl
      rwa [List.getElem?_take_of_lt (by omega), List.getElem?_drop, Nat.add_zero] at this
    · exact ⟨0, fun h => absurd h hi⟩
  refine ⟨(List.range n).map fun i => Classical.choose (key i), by simp, ?_, ?_⟩
  · intro b hb
    obtain ⟨i, hi, rfl⟩ := List.mem_map.1 hb
    exact (Classical.choose_spec (key i) (List.mem_range.1 hi)).1
  · apply List.ext_getElem?
    intro i
    by_cases hi : i < n
    · rw [(Classical.choose_spec (key i) hi).2]
      simp only [bys, List.map_map, List.getElem?_map]
      rw [List.getElem?_range hi]
      rfl
    · rw [List.getElem?_eq_none (by omega), List.getElem?_eq_none (by rw [bys_len]; simp; omega)]
theorem open_arr {fuel : Nat} {cs : List Value} {x : DataW H × List MemPlace} (h : DataW.trod enc Tryd.prog w base spare held fuel 39 cs = some x) : ∃ y : D.Tg, cs = bys y.l := by
  obtain ⟨l, h1, h2, h3⟩ := open_bytes _ 10 Tryd.underlying39 (by kernel_rfl) h
  exact ⟨⟨l, h1, h2⟩, h3⟩
theorem open_tag {fuel : Nat} {cs : List Value} {x : DataW H × List MemPlace} (h : DataW.trod enc Tryd.prog w base spare held fuel 29 cs = some x) : ∃ y : D.Tg, cs = bys y.l := by
  obtain ⟨xs, m, _, _, hl, hx, hf⟩ := DataW.trod_struct Tryd.underlying29 h
  have hC : Tryd.prog.cellsOf 29 = 10 := by kernel_rfl
  have hC3 : Tryd.prog.cellsOf 26 = 3 := by kernel_rfl
  have hC4 : Tryd.prog.cellsOf 27 = 4 := by kernel_rfl
  rw [hC] at hl
  have hx3 : xs.length = 3 := hx
  have h0 : DataW.trod enc Tryd.prog w base spare held m 26 ((cs.drop 0).take (Tryd.prog.cellsOf 26)) = xs[0]? := hf 0 _ rfl
  have h1 : DataW.trod enc Tryd.prog w base spare held m 27 ((cs.drop 3).take (Tryd.prog.cellsOf 27)) = xs[1]? := hf 1 _ rfl
  have h2 : DataW.trod enc Tryd.prog w base spare held m 26 ((cs.drop 7).take (Tryd.prog.cellsOf 26)) = xs[2]? := hf 2 _ rfl
  rw [hC3] at h0 h2
  rw [hC4] at h1
  rw [List.getElem?_eq_getElem (show 0 < xs.length by omega)] at h0
  rw [List.getElem?_eq_getElem (show 1 < xs.length by omega)] at h1
  rw [List.getElem?_eq_getElem (show 2 < xs.length by omega)] at h2
  obtain ⟨a, a1, a2, a3⟩ := open_bytes _ 3 Tryd.underlying26 hC3 h0
  obtain ⟨b, b1, b2, b3⟩ := open_bytes _ 4 Tryd.underlying27 hC4 h1
  obtain ⟨c, c1, c2, c3⟩ := open_bytes _ 3 Tryd.underlying26 hC3 h2
  refine ⟨⟨a ++ (b ++ c), by simp; omega, fun z hz => ?_⟩, ?_⟩
  · rcases List.mem_append.1 hz with hz | hz
    · exact a2 z hz
    · rcases List.mem_append.1 hz with hz | hz
      · exact b2 z hz
      · exact c2 z hz
  · rw [bys_app, bys_app, ← a3, ← b3, ← c3, List.drop_zero]
    have a1' : (cs.drop 7).take 3 = (cs.drop 3).drop 4 := by
      rw [List.drop_drop, List.take_of_length_le (by simp; omega)]
    rw [a1', List.take_append_drop, List.take_append_drop]
theorem open_tags {fuel : Nat} {cs : List Value} {x : DataW H × List MemPlace} (h : DataW.trod enc Tryd.prog w base spare held fuel 46 cs = some x) :
    ∃ (A : Option Addr) (len cap : Nat) (l : List D.Tg), cs = [.slice A len cap] ∧ NRow w A len l ∧ len ≤ cap ∧ cap ≤ maxLen := by
  rcases open_slice Tryd.underlying46 h with ⟨rfl, _⟩ | ⟨a, len, cap, m, n, D', Pl, rfl, hb, hl, hm, hmm, _, hi⟩
  · exact ⟨none, 0, 0, [], rfl, NRow.nil _ _, Nat.le_refl _, Nat.zero_le _⟩
  · have hlm : len ≤ m := by rw [hmm]; split <;> omega
    have hC : Tryd.prog.cellsOf 29 = 10 := by kernel_rfl
    rw [hC] at hi
    have key : ∀ i, ∃ y : D.Tg, i < len → At w (a.add (i * 10)) y := by
      intro i
      by_cases hlt : i < len
      · obtain ⟨cs', hc, ht⟩ := hi i (by omega)
        obtain ⟨y, rfl⟩ := open_tag ht
        obtain ⟨_, _, hat⟩ := World.cells?_some hc
        refine ⟨y, fun _ => fun j u hu => ?_⟩
        have hj : j < 10 := by
          have := (List.getElem?_eq_some_iff.1 hu).1
          rwa [bys_len, y.len] at this
        rw [hat j hj, hu]
      · exact ⟨D.zero, fun h => absurd h hlt⟩
    refine ⟨some a, len, cap, (List.range len).map fun i => Classical.choose (key i), rfl, ⟨by simp, fun hn => ⟨a, rfl, ?_, fun i y hy => ?_⟩⟩, hl, hm⟩
    · have := rd_lt (rd_of (Classical.choose_spec (key 0) hn))
      rwa [block_of_add] at this
    · rw [List.getElem?_map] at hy
      have hlt : i < len := by
        rcases Nat.lt_or_ge i len with h | h
        · exact h
        · rw [List.getElem?_eq_none (by simp; omega)] at hy; simp at hy
      rw [List.getElem?_range hlt] at hy
      simp at hy
      subst hy
      exact Classical.choose_spec (key i) hlt
end
end Go.Proofs.YtgbnaammphilhaaDoor
