/-
  A key, its bytes, a prefix, a name, a tag and a slice of keys, that came in, opened.
-/
import Derived.Test.YtgobbdfgjgjigaaGreatDoorKCel
import Derived.Deep.Slices
import Derived.ChangeSame
import Derived.OpenShut
set_option linter.unusedVariables false
set_option linter.unusedSimpArgs false
namespace Go.Proofs.YtgobbdfgjgjigaaGreatDoor
open Go.RowKit Go.ChangeShapes Go.WideShapes Go.Deep

section
variable {H : Type} {enc : TypeId × Value → H} {w : World} {base : Nat} {spare : Nat → Bool} {held : Bool}
theorem open_bytes (t : TypeId) (n : Nat) (hu : Tryz.prog.underlying t = some (.array n 5)) (hC : Tryz.prog.cellsOf t = n) {fuel : Nat} {cs : List Value} {x : DataW H × List MemPlace} (h : DataW.trod enc Tryz.prog w base spare held fuel t cs = some x) :
    ∃ l : List Nat, l.length = n ∧ (∀ b ∈ l, b < 256) ∧ cs = bys l := by
  obtain ⟨xs, m, _, _, hl, hx, hf⟩ := DataW.trod_array hu h
  rw [hC] at hl
  have key : ∀ i, ∃ b : Nat, i < n → b < 256 ∧ cs[i]? = some (.int .u8 b) := by
    intro i
    by_cases hi : i < n
    · have h1 := hf i hi
      rw [cells_u8, Nat.mul_one] at h1
      have x0 : xs[i]? = some (xs[i]'(by rw [hx]; exact hi)) := List.getElem?_eq_getElem _
      rw [x0] at h1
      obtain ⟨z, e0, _, w0⟩ := DataW.trod_int Tryz.underlying5 h1
      have hb := bounds_u8 w0
      refine ⟨z.toNat, fun _ => ⟨by omega, ?_⟩⟩
      rw [Int.toNat_of_nonneg hb.1]
      have : ((cs.drop i).take 1)[0]? = some (.int .u8 z) := by rw [e0]; rfl
      rwa [List.getElem?_take_of_lt (by omega), List.getElem?_drop, Nat.add_zero] at this
    · exact ⟨0, fun h => absurd h hi⟩
  refine ⟨(List.range n).map fun i => Classical.choose (key i), by simp, ?_, ?_⟩
  · intro b hb
    obtain ⟨i, hi, rfl⟩ := List.mem_map.1 hb
    exact (Classical.choose_spec (key i) (List.mem_range.1 hi)).1
  · apply List.ext_getElem?
    intro i
    by_cases hi : i < n
    · rw [(Classical.choose_spec (key i) hi).2]
      simp only [bys, List.map_map, List.getElem?_map]
      rw [List.getElem?_range hi]
      rfl
    · rw [List.getElem?_eq_none (by omega), List.getElem?_eq_none (by rw [bys_len]; simp; omega)]
theorem open_tag {fuel : Nat} {cs : List Value} {x : DataW H × List MemPlace} (h : DataW.trod enc Tryz.prog w base spare held fuel 28 cs = some x) : ∃ y : D.Tg, cs = bys y.l := by
  obtain ⟨xs, m, _, _, hl, hx, hf⟩ := DataW.trod_struct Tryz.underlying28 h
  have hC : Tryz.prog.cellsOf 28 = 10 := by kernel_rfl
  have hC3 : Tryz.prog.cellsOf 25 = 3 := by kernel_rfl
  have hC4 : Tryz.prog.cellsOf 26 = 4 := by kernel_rfl
  rw [hC] at hl
  have hx3 : xs.length = 3 := hx
  have h0 : DataW.trod enc Tryz.prog w base spare held m 25 ((cs.drop 0).take (Tryz.prog.cellsOf 25)) = xs[0]? := hf 0 _ rfl
  have h1 : DataW.trod enc Tryz.prog w base spare held m 26 ((cs.drop 3).take (Tryz.prog.cellsOf 26)) = xs[1]? := hf 1 _ rfl
  have h2 : DataW.trod enc Tryz.prog w base spare held m 25 ((cs.drop 7).take (Tryz.prog.cellsOf 25)) = xs[2]? := hf 2 _ rfl
  rw [hC3] at h0 h2
  rw [hC4] at h1
  rw [List.getElem?_eq_getElem (show 0 < xs.length by omega)] at h0
  rw [List.getElem?_eq_getElem (show 1 < xs.length by omega)] at h1
  rw [List.getElem?_eq_getElem (show 2 < xs.length by omega)] at h2
  obtain ⟨a, a1, a2, a3⟩ := open_bytes _ 3 Tryz.underlying25 hC3 h0
  obtain ⟨b, b1, b2, b3⟩ := open_bytes _ 4 Tryz.underlying26 hC4 h1
  obtain ⟨c, c1, c2, c3⟩ := open_bytes _ 3 Tryz.underlying25 hC3 h2
  refine ⟨⟨a ++ (b ++ c), by simp; omega, fun z hz => ?_⟩, ?_⟩
  · rcases List.mem_append.1 hz with hz | hz
    · exact a2 z hz
    · rcases List.mem_append.1 hz with hz | hz
      · exact b2 z hz
      · exact c2 z hz
  · rw [bys_app, bys_app, ← a3, ← b3, ← c3, List.drop_zero]
    have a1' : (cs.drop 7).take 3 = (cs.drop 3).drop 4 := by
      rw [List.drop_drop, List.take_of_length_le (by simp; omega)]
    rw [a1', List.take_append_drop, List.take_append_drop]
theorem open_name {fuel : Nat} {cs : List Value} {x : DataW H × List MemPlace} (h : DataW.trod enc Tryz.prog w base spare held fuel 24 cs = some x) : ∃ y : Nm.D.Nm, cs = bys y.l := by
  obtain ⟨l, h1, h2, h3⟩ := open_bytes _ 12 Tryz.underlying24 (by kernel_rfl) h
  exact ⟨⟨l, h1, h2⟩, h3⟩
theorem open_u8 {fuel : Nat} {cs : List Value} {x : DataW H × List MemPlace} (h : DataW.trod enc Tryz.prog w base spare held fuel 5 cs = some x) : ∃ b : Nat, b < 256 ∧ cs = [.int .u8 b] := by
  obtain ⟨z, e0, _, w0⟩ := DataW.trod_int Tryz.underlying5 h
  have hb := bounds_u8 w0
  exact ⟨z.toNat, by omega, by rw [Int.toNat_of_nonneg hb.1]; exact e0⟩
theorem list_cut (cs : List Value) (h : cs.length = 25) : cs = (cs.drop 0).take 1 ++ ((cs.drop 1).take 1 ++ ((cs.drop 2).take 1 ++ ((cs.drop 3).take 12 ++ (cs.drop 15).take 10))) := by
  match cs, h with
  | [a0, a1, a2, a3, a4, a5, a6, a7, a8, a9, a10, a11, a12, a13, a14, a15, a16, a17, a18, a19, a20, a21, a22, a23, a24], _ => rfl
theorem open_key {fuel : Nat} {cs : List Value} {x : DataW H × List MemPlace} (h : DataW.trod enc Tryz.prog w base spare held fuel 30 cs = some x) : ∃ y : D.Ky, cs = bys y.l := by
  obtain ⟨xs, m, _, _, hl, hx, hf⟩ := DataW.trod_struct Tryz.underlying30 h
  rw [c_key] at hl
  have hx5 : xs.length = 5 := hx
  have h0 : DataW.trod enc Tryz.prog w base spare held m 5 ((cs.drop 0).take (Tryz.prog.cellsOf 5)) = xs[0]? := hf 0 _ rfl
  have h1 : DataW.trod enc Tryz.prog w base spare held m 5 ((cs.drop 1).take (Tryz.prog.cellsOf 5)) = xs[1]? := hf 1 _ rfl
  have h2 : DataW.trod enc Tryz.prog w base spare held m 5 ((cs.drop 2).take (Tryz.prog.cellsOf 5)) = xs[2]? := hf 2 _ rfl
  have h3 : DataW.trod enc Tryz.prog w base spare held m 24 ((cs.drop 3).take (Tryz.prog.cellsOf 24)) = xs[3]? := hf 3 _ rfl
  have h4 : DataW.trod enc Tryz.prog w base spare held m 28 ((cs.drop 15).take (Tryz.prog.cellsOf 28)) = xs[4]? := hf 4 _ rfl
  rw [cells_u8] at h0 h1 h2
  rw [c_name] at h3
  rw [c_tag] at h4
  rw [List.getElem?_eq_getElem (show 0 < xs.length by omega)] at h0
  rw [List.getElem?_eq_getElem (show 1 < xs.length by omega)] at h1
  rw [List.getElem?_eq_getElem (show 2 < xs.length by omega)] at h2
  rw [List.getElem?_eq_getElem (show 3 < xs.length by omega)] at h3
  rw [List.getElem?_eq_getElem (show 4 < xs.length by omega)] at h4
  obtain ⟨b0, l0, e0⟩ := open_u8 h0
  obtain ⟨b1, l1, e1⟩ := open_u8 h1
  obtain ⟨b2, l2, e2⟩ := open_u8 h2
  obtain ⟨n, e3⟩ := open_name h3
  obtain ⟨t, e4⟩ := open_tag h4
  refine ⟨D.mkK b0 b1 b2 n t, ?_⟩
  rw [list_cut cs hl, e0, e1, e2, e3, e4]
  show _ = bys (b0 % 256 :: b1 % 256 :: b2 % 256 :: (n.l ++ t.l))
  rw [Nat.mod_eq_of_lt l0, Nat.mod_eq_of_lt l1, Nat.mod_eq_of_lt l2]
  simp [bys]
end
end Go.Proofs.YtgobbdfgjgjigaaGreatDoor
