/-
  Records and bytes that came in, opened.
-/
import Derived.Test.YtelifoagnheioaaRlb
import Derived.Deep.Slices
import Derived.Deep.Fields
import Derived.ChangeSame
set_option linter.unusedVariables false
set_option linter.unusedSimpArgs false
set_option maxRecDepth 100000
namespace Go.Proofs.Ytelifoagnheioaa
open Go.RowKit Go.ChangeShapes Go.WideShapes Go.Deep

theorem bnd_u8 {z : Int} (h : (Lit.int .u8 z).wf = true) : 0 ≤ z ∧ z < 256 := by
  simp [Lit.wf, IntKind.min, IntKind.max, IntKind.bits, IntKind.signed] at h; omega
theorem bnd_u32 {z : Int} (h : (Lit.int .u32 z).wf = true) : 0 ≤ z ∧ z < 4294967296 := by
  simp [Lit.wf, IntKind.min, IntKind.max, IntKind.bits, IntKind.signed] at h; omega
theorem bnd_u64 {z : Int} (h : (Lit.int .u64 z).wf = true) : 0 ≤ z ∧ z < 18446744073709551616 := by
  simp [Lit.wf, IntKind.min, IntKind.max, IntKind.bits, IntKind.signed] at h; omega
theorem rcs_back : ∀ {l : List D.Rc} {j : Nat} {u : Value}, (rS.rcs l)[j]? = some u → ∃ (i k : Nat) (r : D.Rc), j = i * 9 + k ∧ l[i]? = some r ∧ (rcells r)[k]? = some u
  | [], j, u, h => by simp [Shp.rcs] at h
  | y :: l, j, u, h => by
    rw [Shp.rcs_cons] at h
    have hl : (rS.cs y).length = 9 := rS.len y
    by_cases hj : j < 9
    · rw [List.getElem?_append_left (by omega)] at h
      exact ⟨0, j, y, by omega, rfl, h⟩
    · rw [List.getElem?_append_right (by omega), hl] at h
      obtain ⟨i, k, r, e, h1, h2⟩ := rcs_back h
      exact ⟨i + 1, k, r, by omega, by simpa using h1, h2⟩
section
variable {H : Type} {enc : TypeId × Value → H} {w : World} {base : Nat} {spare : Nat → Bool} {held : Bool}
theorem open_rec {fuel : Nat} {cs : List Value} {x : DataW H × List MemPlace} (h : DataW.trod enc Try.prog w base spare held fuel 28 cs = some x) :
    ∃ r : D.Rc, cs = rcells r ∧ r.wf ∧ r.t.size ≤ maxLen := by
  obtain ⟨xs, n, _, _, hl, hx, hf⟩ := DataW.trod_struct Try.underlying28 h
  have hC : Try.prog.cellsOf 28 = 9 := by kernel_rfl
  have c8 : Try.prog.cellsOf 5 = 1 := by kernel_rfl
  have cb : Try.prog.cellsOf 4 = 1 := by kernel_rfl
  have c32 : Try.prog.cellsOf 25 = 1 := by kernel_rfl
  have c64 : Try.prog.cellsOf 26 = 1 := by kernel_rfl
  have cst : Try.prog.cellsOf 9 = 1 := by kernel_rfl
  rw [hC] at hl
  have h0 : DataW.trod enc Try.prog w base spare held n 5 ((cs.drop 0).take (Try.prog.cellsOf 5)) = xs[0]? := hf 0 _ rfl
  rw [c8] at h0
  have h1 : DataW.trod enc Try.prog w base spare held n 5 ((cs.drop 1).take (Try.prog.cellsOf 5)) = xs[1]? := hf 1 _ rfl
  rw [c8] at h1
  have h2 : DataW.trod enc Try.prog w base spare held n 5 ((cs.drop 2).take (Try.prog.cellsOf 5)) = xs[2]? := hf 2 _ rfl
  rw [c8] at h2
  have h3 : DataW.trod enc Try.prog w base spare held n 5 ((cs.drop 3).take (Try.prog.cellsOf 5)) = xs[3]? := hf 3 _ rfl
  rw [c8] at h3
  have h4 : DataW.trod enc Try.prog w base spare held n 5 ((cs.drop 4).take (Try.prog.cellsOf 5)) = xs[4]? := hf 4 _ rfl
  rw [c8] at h4
  have h5 : DataW.trod enc Try.prog w base spare held n 4 ((cs.drop 5).take (Try.prog.cellsOf 4)) = xs[5]? := hf 5 _ rfl
  rw [cb] at h5
  have h6 : DataW.trod enc Try.prog w base spare held n 25 ((cs.drop 6).take (Try.prog.cellsOf 25)) = xs[6]? := hf 6 _ rfl
  rw [c32] at h6
  have h7 : DataW.trod enc Try.prog w base spare held n 26 ((cs.drop 7).take (Try.prog.cellsOf 26)) = xs[7]? := hf 7 _ rfl
  rw [c64] at h7
  have h8 : DataW.trod enc Try.prog w base spare held n 9 ((cs.drop 8).take (Try.prog.cellsOf 9)) = xs[8]? := hf 8 _ rfl
  rw [cst] at h8
  match cs, hl with
  | [a0, a1, a2, a3, a4, a5, a6, a7, a8], _ =>
    have x0 : xs[0]? = some (xs[0]'(by rw [hx]; decide)) := List.getElem?_eq_getElem _
    rw [x0] at h0
    have x1 : xs[1]? = some (xs[1]'(by rw [hx]; decide)) := List.getElem?_eq_getElem _
    rw [x1] at h1
    have x2 : xs[2]? = some (xs[2]'(by rw [hx]; decide)) := List.getElem?_eq_getElem _
    rw [x2] at h2
    have x3 : xs[3]? = some (xs[3]'(by rw [hx]; decide)) := List.getElem?_eq_getElem _
    rw [x3] at h3
    have x4 : xs[4]? = some (xs[4]'(by rw [hx]; decide)) := List.getElem?_eq_getElem _
    rw [x4] at h4
    have x5 : xs[5]? = some (xs[5]'(by rw [hx]; decide)) := List.getElem?_eq_getElem _
    rw [x5] at h5
    have x6 : xs[6]? = some (xs[6]'(by rw [hx]; decide)) := List.getElem?_eq_getElem _
    rw [x6] at h6
    have x7 : xs[7]? = some (xs[7]'(by rw [hx]; decide)) := List.getElem?_eq_getElem _
    rw [x7] at h7
    have x8 : xs[8]? = some (xs[8]'(by rw [hx]; decide)) := List.getElem?_eq_getElem _
    rw [x8] at h8
    obtain ⟨z0, e0, _, w0⟩ := DataW.trod_int Try.underlying5 h0
    obtain ⟨z1, e1, _, w1⟩ := DataW.trod_int Try.underlying5 h1
    obtain ⟨z2, e2, _, w2⟩ := DataW.trod_int Try.underlying5 h2
    obtain ⟨z3, e3, _, w3⟩ := DataW.trod_int Try.underlying5 h3
    obtain ⟨z4, e4, _, w4⟩ := DataW.trod_int Try.underlying5 h4
    obtain ⟨z5, e5, _⟩ := DataW.trod_bool Try.underlying4 h5
    obtain ⟨z6, e6, _, w6⟩ := DataW.trod_int Try.underlying25 h6
    obtain ⟨z7, e7, _, w7⟩ := DataW.trod_int Try.underlying26 h7
    obtain ⟨z8, e8, _, w8⟩ := DataW.trod_string Try.underlying9 h8
    simp at e0 e1 e2 e3 e4 e5 e6 e7 e8
    subst e0 e1 e2 e3 e4 e5 e6 e7 e8
    have b0 := bnd_u8 w0
    have b1 := bnd_u8 w1
    have b2 := bnd_u8 w2
    have b3 := bnd_u8 w3
    have b4 := bnd_u8 w4
    have b6 := bnd_u32 w6
    have b7 := bnd_u64 w7
    refine ⟨⟨z0.toNat, z1.toNat, z2.toNat, z3.toNat, z4.toNat, z5, z6.toNat, z7.toNat, z8⟩, ?_, ⟨?_, ?_, ?_, ?_, ?_, ?_, ?_⟩, w8⟩
    · simp only [rcells]
      rw [Int.toNat_of_nonneg b0.1, Int.toNat_of_nonneg b1.1, Int.toNat_of_nonneg b2.1, Int.toNat_of_nonneg b3.1, Int.toNat_of_nonneg b4.1, Int.toNat_of_nonneg b6.1, Int.toNat_of_nonneg b7.1]
    all_goals (simp only; omega)
theorem open_recs {fuel : Nat} {cs : List Value} {x : DataW H × List MemPlace} (h : DataW.trod enc Try.prog w base spare held fuel 22 cs = some x) :
    ∃ (A : Option Addr) (len cap : Nat) (l : List D.Rc), cs = [.slice A len cap] ∧ Rw 9 w A len (rS.rcs l) ∧ (∀ r ∈ l, r.wf ∧ r.t.size ≤ maxLen) ∧ len ≤ cap ∧ cap ≤ maxLen := by
  rcases open_slice Try.underlying22 h with ⟨rfl, _⟩ | ⟨a, len, cap, m, n, D', Pl, rfl, hb, hl, hm, hmm, _, hi⟩
  · exact ⟨none, 0, 0, [], rfl, Rw.nil _ _ _, by simp, Nat.le_refl _, Nat.zero_le _⟩
  · have hlm : len ≤ m := by rw [hmm]; split <;> omega
    have hC : Try.prog.cellsOf 28 = 9 := by kernel_rfl
    rw [hC] at hi
    have key : ∀ i, ∃ r : D.Rc, i < len → (r.wf ∧ r.t.size ≤ maxLen) ∧ ∀ j u, (rcells r)[j]? = some u → w.cell? ((a.add (i * 9)).add j) = some u := by
      intro i
      by_cases hlt : i < len
      · obtain ⟨cs', hc, ht⟩ := hi i (by omega)
        obtain ⟨r, rfl, hr, hz⟩ := open_rec ht
        obtain ⟨_, _, hat⟩ := World.cells?_some hc
        refine ⟨r, fun _ => ⟨⟨hr, hz⟩, fun j u hu => ?_⟩⟩
        have hj : j < 9 := (List.getElem?_eq_some_iff.1 hu).1
        have h1 := hat j (by omega)
        have h2 := (List.getElem?_eq_some_iff.1 hu).2
        rw [h1]
        simpa using hu
      · exact ⟨D.zRc, fun h => absurd h hlt⟩
    refine ⟨some a, len, cap, (List.range len).map fun i => Classical.choose (key i), rfl, ⟨?_, fun hn => ⟨a, rfl, ?_, fun j u hu => ?_⟩⟩, ?_, hl, by omega⟩
    · rw [rS.rcs_len, List.length_map, List.length_range]; rfl
    · have := World.block_lt_of_cell? w _ ((Classical.choose_spec (key 0) hn).2 0 _ rfl)
      rwa [block_of_add, block_of_add] at this
    · obtain ⟨i, k, r, rfl, h1, h2⟩ := rcs_back hu
      rw [List.getElem?_map] at h1
      have hlt : i < len := by
        rcases Nat.lt_or_ge i len with h | h
        · exact h
        · rw [List.getElem?_eq_none (by simp; omega)] at h1; simp at h1
      rw [List.getElem?_range hlt] at h1
      simp at h1
      subst h1
      rw [← add_of_add]
      exact (Classical.choose_spec (key i) hlt).2 k u h2
    · intro r hr
      obtain ⟨i, hi', rfl⟩ := List.mem_map.1 hr
      exact (Classical.choose_spec (key i) (List.mem_range.1 hi')).1
theorem open_bytes {fuel : Nat} {cs : List Value} {x : DataW H × List MemPlace} (h : DataW.trod enc Try.prog w base spare held fuel 23 cs = some x) :
    ∃ (A : Option Addr) (len cap : Nat) (l : List Nat), cs = [.slice A len cap] ∧ Row w A len (bys l) ∧ (∀ b ∈ l, b < 256) ∧ len ≤ cap ∧ cap ≤ maxLen := by
  rcases open_ints Try.underlying23 Try.underlying5 (by kernel_rfl) h with ⟨rfl, _⟩ | ⟨a, len, cap, zs, rfl, _, hl, hm, hz, _, hcell, hwz⟩
  · exact ⟨none, 0, 0, [], rfl, Row.nil _ _, by simp, Nat.le_refl _, by simp [maxLen]⟩
  · have hzl : len ≤ zs.length := by rw [hz]; split <;> omega
    refine ⟨some a, len, cap, (zs.take len).map Int.toNat, rfl, ⟨by simp [bys]; omega, fun hn => ⟨a, rfl, ?_, fun j u hu => ?_⟩⟩, ?_, hl, hm⟩
    · have := World.block_lt_of_cell? w _ (hcell 0 (by omega))
      rwa [block_of_add] at this
    · have hj : j < len := by
        have := (List.getElem?_eq_some_iff.1 hu).1
        simp [bys] at this
        omega
      have hq : zs[j]? = some (zs[j]'(by omega)) := List.getElem?_eq_getElem _
      rw [hcell j (by omega), List.getD_eq_getElem?_getD, hq]
      simp only [bys, List.getElem?_map, List.getElem?_take, if_pos hj, hq, Option.map_some] at hu
      rw [← hu]
      have := (bnd_u8 (hwz _ (List.getElem_mem (l := zs) (n := j) (by omega)))).1
      simp only [Option.getD_some]
      rw [Int.toNat_of_nonneg this]
    · intro b hb
      obtain ⟨z, hz', rfl⟩ := List.mem_map.1 hb
      have := bnd_u8 (hwz z (List.mem_of_mem_take hz'))
      omega
end
end Go.Proofs.Ytelifoagnheioaa
