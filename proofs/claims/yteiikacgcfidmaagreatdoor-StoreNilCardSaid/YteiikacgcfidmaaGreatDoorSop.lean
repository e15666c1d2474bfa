/-
  Writes, what is asked, calls that came in, opened.
-/
import Derived.Test.YteiikacgcfidmaaGreatDoorG39
set_option linter.unusedVariables false
set_option linter.unusedSimpArgs false
set_option maxRecDepth 100000
namespace Go.Proofs.YteiikacgcfidmaaGreatDoor
open Go.RowKit Go.ChangeShapes Go.WideShapes Go.Deep
theorem cut_at (cs : List Value) (i n : Nat) : cs.drop i = (cs.drop i).take n ++ cs.drop (i + n) := by
  rw [← List.drop_drop]; exact (List.take_append_drop _ _).symm
section
variable {H : Type} {enc : TypeId × Value → H} {w : World} {base : Nat} {spare : Nat → Bool} {held : Bool}
theorem open_write {fuel : Nat} {cs : List Value} {x : DataW H × List MemPlace} (h : DataW.trod enc Tryz.prog w base spare held fuel 65 cs = some x) :
    ∃ y : D.Wt, cs = xS.cs y ∧ y.r.wf ∧ y.r.t.size ≤ maxLen := by
  obtain ⟨xs, n, _, _, hl, hx, hf⟩ := DataW.trod_struct Tryz.underlying65 h
  have hC : Tryz.prog.cellsOf 65 = 35 := by kernel_rfl
  have cb : Tryz.prog.cellsOf 4 = 1 := by kernel_rfl
  have cR : Tryz.prog.cellsOf 53 = 9 := by kernel_rfl
  rw [hC] at hl
  have hx3 : xs.length = 3 := hx
  have h0 : DataW.trod enc Tryz.prog w base spare held n 39 ((cs.drop 0).take (Tryz.prog.cellsOf 39)) = xs[0]? := hf 0 _ rfl
  rw [c_key] at h0
  have h1 : DataW.trod enc Tryz.prog w base spare held n 4 ((cs.drop 25).take (Tryz.prog.cellsOf 4)) = xs[1]? := hf 1 _ rfl
  rw [cb] at h1
  have h2 : DataW.trod enc Tryz.prog w base spare held n 53 ((cs.drop 26).take (Tryz.prog.cellsOf 53)) = xs[2]? := hf 2 _ rfl
  rw [cR] at h2
  rw [List.getElem?_eq_getElem (show 0 < xs.length by omega)] at h0
  rw [List.getElem?_eq_getElem (show 1 < xs.length by omega)] at h1
  rw [List.getElem?_eq_getElem (show 2 < xs.length by omega)] at h2
  obtain ⟨k, e0⟩ := open_key h0
  obtain ⟨z1, e1, _⟩ := DataW.trod_bool Tryz.underlying4 h1
  obtain ⟨r, e2, hr, hz⟩ := open_rec h2
  refine ⟨⟨k, z1, r⟩, ?_, hr, hz⟩
  show cs = xcells _
  have e : cs = (cs.drop 0).take 25 ++ ((cs.drop 25).take 1 ++ (cs.drop 26).take 9) := by
    rw [List.take_of_length_le (l := cs.drop 26) (by simp; omega), ← cut_at cs 25 1, ← cut_at cs 0 25]; rfl
  rw [e, e0, e1, e2]
  rfl
theorem open_ask {fuel : Nat} {cs : List Value} {x : DataW H × List MemPlace} (h : DataW.trod enc Tryz.prog w base spare held fuel 75 cs = some x) :
    ∃ y : D.Ask, cs = qS.cs y := by
  obtain ⟨xs, n, _, _, hl, hx, hf⟩ := DataW.trod_struct Tryz.underlying75 h
  have hC : Tryz.prog.cellsOf 75 = 53 := by kernel_rfl
  have c64 : Tryz.prog.cellsOf 44 = 1 := by kernel_rfl
  rw [hC] at hl
  have hx4 : xs.length = 4 := hx
  have h0 : DataW.trod enc Tryz.prog w base spare held n 41 ((cs.drop 0).take (Tryz.prog.cellsOf 41)) = xs[0]? := hf 0 _ rfl
  rw [c_px] at h0
  have h1 : DataW.trod enc Tryz.prog w base spare held n 39 ((cs.drop 26).take (Tryz.prog.cellsOf 39)) = xs[1]? := hf 1 _ rfl
  rw [c_key] at h1
  have h2 : DataW.trod enc Tryz.prog w base spare held n 44 ((cs.drop 51).take (Tryz.prog.cellsOf 44)) = xs[2]? := hf 2 _ rfl
  rw [c64] at h2
  have h3 : DataW.trod enc Tryz.prog w base spare held n 3 ((cs.drop 52).take (Tryz.prog.cellsOf 3)) = xs[3]? := hf 3 _ rfl
  rw [c_int] at h3
  rw [List.getElem?_eq_getElem (show 0 < xs.length by omega)] at h0
  rw [List.getElem?_eq_getElem (show 1 < xs.length by omega)] at h1
  rw [List.getElem?_eq_getElem (show 2 < xs.length by omega)] at h2
  rw [List.getElem?_eq_getElem (show 3 < xs.length by omega)] at h3
  obtain ⟨p, e0⟩ := open_prefix h0
  obtain ⟨k, e1⟩ := open_key h1
  obtain ⟨z2, e2, _, w2⟩ := DataW.trod_int Tryz.underlying44 h2
  obtain ⟨z3, e3, _, w3⟩ := DataW.trod_int Tryz.underlying3 h3
  have b2 := bnd_u64 w2
  refine ⟨⟨p, k, z2.toNat, z3⟩, ?_⟩
  show cs = qcells _
  have e : cs = (cs.drop 0).take 26 ++ ((cs.drop 26).take 25 ++ ((cs.drop 51).take 1 ++ (cs.drop 52).take 1)) := by
    rw [List.take_of_length_le (l := cs.drop 52) (by simp; omega), ← cut_at cs 51 1, ← cut_at cs 26 25, ← cut_at cs 0 26]; rfl
  rw [e, e0, e1, e2, e3]
  simp only [qcells]
  rw [Int.toNat_of_nonneg b2.1]
  rfl
end
section
variable {H : Type} {enc : TypeId × Value → H} {w : World} {base : Nat} {spare : Nat → Bool} {held : Bool}
end
end Go.Proofs.YteiikacgcfidmaaGreatDoor
