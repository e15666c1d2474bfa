/-
  Writes, what is asked, calls that came in, opened.
-/
import Derived.Test.YteiikacgcfidmaaGreatDoorG39
set_option linter.unusedVariables false
set_option linter.unusedSimpArgs false
set_option maxRecDepth 100000
namespace Go.Proofs.YteiikacgcfidmaaGreatDoor
open Go.RowKit Go.ChangeShapes Go.WideShapes Go.Deep
theorem cut_at (cs : List Value) (i n : Nat) : cs.drop i = (cs.drop i).take n ++ cs.drop (i + n) := by
  rw [← List.drop_drop]; exact (List.take_append_drop _ _).symm
section
variable {H : Type} {enc : TypeId × Value → H} {w : World} {base : Nat} {spare : Nat → Bool} {held : Bool}
theorem open_write {fuel : Nat} {cs : List Value} {x : DataW H × List MemPlace} (h : DataW.trod enc Tryz.prog w base spare held fuel 65 cs = some x) :
    ∃ y : D.Wt, cs = xS.cs y ∧ y.r.wf ∧ y.r.t.size ≤ maxLen := by
  obtain ⟨xs, n, _, _, hl, hx, hf⟩ := DataW.trod_struct Tryz.underlying65 h
  have hC : Tryz.prog.cellsOf 65 = 35 := by kernel_rfl
  have cb : Tryz.prog.cellsOf 4 = 1 := by kernel_rfl
  have cR : Tryz.prog.cellsOf 53 = 9 := by kernel_rfl
  rw [hC] at hl
  have hx3 : xs.length = 3 := hx
  have h0 : DataW.trod enc Tryz.prog w base spare held n 39 ((cs.drop 0).take (Tryz.prog.cellsOf 39)) = xs[0]? := hf 0 _ rfl
  rw [c_key] at h0
  have h1 : DataW.trod enc Tryz.prog w base spare held n 4 ((cs.drop 25).take (Tryz.prog.cellsOf 4)) = xs[1]? := hf 1 _ rfl
  rw [cb] at h1
  have h2 : DataW.trod enc Tryz.prog w base spare held n 53 ((cs.drop 26).take (Tryz.prog.cellsOf 53)) = xs[2]? := hf 2 _ rfl
  rw [cR] at h2
  rw [List.getElem?_eq_getElem (show 0 < xs.length by omega)] at h0
  rw [List.getElem?_eq_getElem (show 1 < xs.length by omega)] at h1
  rw [List.getElem?_eq_getElem (show 2 < xs.length by omega)] at h2
  obtain ⟨k, e0⟩ := open_key h0
  obtain ⟨z1, e1, _⟩ := DataW.trod_bool Tryz.underlying4 h1
  obtain ⟨r, e2, hr, hz⟩ := open_rec h2
  refine ⟨⟨k, z1, r⟩, ?_, hr, hz⟩
  show cs = xcells _
  have e : cs = (cs.drop 0).take 25 ++ ((cs.drop 25).take 1 ++ (cs.drop 26).take 9) := by
    rw [List.take_of_length_le (l := cs.drop 26) (by simp; omega), ← cut_at cs 25 1, ← cut_at cs 0 25]; rfl
  rw [e, e0, e1, e2]
  rfl
theorem open_writes {fuel : Nat} {cs : List Value} {x : DataW H × List MemPlace} (h : DataW.trod enc Tryz.prog w base spare held fuel 22 cs = some x) :
    ∃ (A : Option Addr) (len cap : Nat) (l : List D.Wt), cs = [.slice A len cap] ∧ Shp.Row xS w A len l ∧ (∀ r ∈ l, r.r.wf ∧ r.r.t.size ≤ maxLen) ∧ len ≤ cap ∧ cap ≤ maxLen :=
  open_shp xS (fun r => r.r.wf ∧ r.r.t.size ≤ maxLen) D.zWt Tryz.underlying22 (by kernel_rfl) (fun _ _ _ h => let ⟨r, h1, h2, h3⟩ := open_write h; ⟨r, h1, h2, h3⟩) h
theorem open_ask {fuel : Nat} {cs : List Value} {x : DataW H × List MemPlace} (h : DataW.trod enc Tryz.prog w base spare held fuel 75 cs = some x) :
    ∃ y : D.Ask, cs = qS.cs y := by
  obtain ⟨xs, n, _, _, hl, hx, hf⟩ := DataW.trod_struct Tryz.underlying75 h
  have hC : Tryz.prog.cellsOf 75 = 53 := by kernel_rfl
  have c64 : Tryz.prog.cellsOf 44 = 1 := by kernel_rfl
  rw [hC] at hl
  have hx4 : xs.length = 4 := hx
  have h0 : DataW.trod enc Tryz.prog w base spare held n 41 ((cs.drop 0).take (Tryz.prog.cellsOf 41)) = xs[0]? := hf 0 _ rfl
  rw [c_px] at h0
  have h1 : DataW.trod enc Tryz.prog w base spare held n 39 ((cs.drop 26).take (Tryz.prog.cellsOf 39)) = xs[1]? := hf 1 _ rfl
  rw [c_key] at h1
  have h2 : DataW.trod enc Tryz.prog w base spare held n 44 ((cs.drop 51).take (Tryz.prog.cellsOf 44)) = xs[2]? := hf 2 _ rfl
  rw [c64] at h2
  have h3 : DataW.trod enc Tryz.prog w base spare held n 3 ((cs.drop 52).take (Tryz.prog.cellsOf 3)) = xs[3]? := hf 3 _ rfl
  rw [c_int] at h3
  rw [List.getElem?_eq_getElem (show 0 < xs.length by omega)] at h0
  rw [List.getElem?_eq_getElem (show 1 < xs.length by omega)] at h1
  rw [List.getElem?_eq_getElem (show 2 < xs.length by omega)] at h2
  rw [List.getElem?_eq_getElem (show 3 < xs.length by omega)] at h3
  obtain ⟨p, e0⟩ := open_prefix h0
  obtain ⟨k, e1⟩ := open_key h1
  obtain ⟨z2, e2, _, w2⟩ := DataW.trod_int Tryz.underlying44 h2
  obtain ⟨z3, e3, _, w3⟩ := DataW.trod_int Tryz.underlying3 h3
  have b2 := bnd_u64 w2
  refine ⟨⟨p, k, z2.toNat, z3⟩, ?_⟩
  show cs = qcells _
  have e : cs = (cs.drop 0).take 26 ++ ((cs.drop 26).take 25 ++ ((cs.drop 51).take 1 ++ (cs.drop 52).take 1)) := by
    rw [List.take_of_length_le (l := cs.drop 52) (by simp; omega), ← cut_at cs 51 1, ← cut_at cs 26 25, ← cut_at cs 0 26]; rfl
  rw [e, e0, e1, e2, e3]
  simp only [qcells]
  rw [Int.toNat_of_nonneg b2.1]
  rfl
end
/-- A call that came in: is it Trim, the key, pins, writes. -/
structure Scv where
  t : Bool
  k : D.Ky
  Ap : Option Addr
  np : Nat
  cp : Nat
  A : Option Addr
  n : Nat
  c : Nat
def sccells (x : Scv) : List Value := .bool x.t :: (bys x.k.l ++ [.slice x.Ap x.np x.cp, .slice x.A x.n x.c])
theorem sccells_inj {x y : Scv} (h : sccells x = sccells y) : x = y := by
  obtain ⟨t, k, Ap, np, cp, A, n, c⟩ := x
  obtain ⟨t', k', Ap', np', cp', A', n', c'⟩ := y
  simp only [sccells, List.cons.injEq, Value.bool.injEq] at h
  obtain ⟨rfl, h⟩ := h
  have h1 := List.append_inj h (by simp [bys_len, D.Ky.len])
  obtain rfl := D.Ky.eq (bys_inj h1.1)
  have h2 := h1.2
  simp only [List.cons.injEq, Value.slice.injEq, and_true] at h2
  obtain ⟨⟨rfl, rfl, rfl⟩, rfl, rfl, rfl⟩ := h2
  rfl
def scS : Shp Scv := ⟨sccells, 28, by decide, fun x => by simp [sccells, bys_len, x.k.len], sccells_inj, fun x u hu => by
  simp only [sccells, List.mem_cons, List.mem_append, List.not_mem_nil, or_false] at hu
  rcases hu with rfl | hu | rfl | rfl
  · rfl
  · exact bys_one _ u hu
  · rfl
  · rfl⟩
/-- What is known of it: its writes. -/
def ScOk (w : World) (a : Scv) (l : List D.Wt) : Prop := Shp.Row xS w a.A a.n l ∧ (∀ x ∈ l, x.r.wf ∧ x.r.t.size ≤ maxLen) ∧ a.n ≤ maxLen
section
variable {H : Type} {enc : TypeId × Value → H} {w : World} {base : Nat} {spare : Nat → Bool} {held : Bool}
theorem open_sact {fuel : Nat} {cs : List Value} {x : DataW H × List MemPlace} (h : DataW.trod enc Tryz.prog w base spare held fuel 49 cs = some x) :
    ∃ r : Scv, cs = scS.cs r ∧ ∃ l, ScOk w r l := by
  obtain ⟨xs, n, _, _, hl, hx, hf⟩ := DataW.trod_struct Tryz.underlying49 h
  have hC : Tryz.prog.cellsOf 49 = 28 := by kernel_rfl
  have cb : Tryz.prog.cellsOf 4 = 1 := by kernel_rfl
  have cS : Tryz.prog.cellsOf 47 = 1 := by kernel_rfl
  have cW : Tryz.prog.cellsOf 22 = 1 := by kernel_rfl
  rw [hC] at hl
  have hx4 : xs.length = 4 := hx
  have h0 : DataW.trod enc Tryz.prog w base spare held n 4 ((cs.drop 0).take (Tryz.prog.cellsOf 4)) = xs[0]? := hf 0 _ rfl
  rw [cb] at h0
  have h1 : DataW.trod enc Tryz.prog w base spare held n 39 ((cs.drop 1).take (Tryz.prog.cellsOf 39)) = xs[1]? := hf 1 _ rfl
  rw [c_key] at h1
  have h2 : DataW.trod enc Tryz.prog w base spare held n 47 ((cs.drop 26).take (Tryz.prog.cellsOf 47)) = xs[2]? := hf 2 _ rfl
  rw [cS] at h2
  have h3 : DataW.trod enc Tryz.prog w base spare held n 22 ((cs.drop 27).take (Tryz.prog.cellsOf 22)) = xs[3]? := hf 3 _ rfl
  rw [cW] at h3
  rw [List.getElem?_eq_getElem (show 0 < xs.length by omega)] at h0
  rw [List.getElem?_eq_getElem (show 1 < xs.length by omega)] at h1
  rw [List.getElem?_eq_getElem (show 2 < xs.length by omega)] at h2
  rw [List.getElem?_eq_getElem (show 3 < xs.length by omega)] at h3
  obtain ⟨z0, e0, _⟩ := DataW.trod_bool Tryz.underlying4 h0
  obtain ⟨k, e1⟩ := open_key h1
  obtain ⟨Ap, np, cp, ps, e2, _⟩ := open_u64s h2
  obtain ⟨A, m, c, l, e3, hr, hwz, hmc, hcm⟩ := open_writes h3
  refine ⟨⟨z0, k, Ap, np, cp, A, m, c⟩, ?_, l, hr, hwz, Nat.le_trans hmc hcm⟩
  show cs = sccells _
  have e : cs = (cs.drop 0).take 1 ++ ((cs.drop 1).take 25 ++ ((cs.drop 26).take 1 ++ (cs.drop 27).take 1)) := by
    rw [List.take_of_length_le (l := cs.drop 27) (by simp; omega), ← cut_at cs 26 1, ← cut_at cs 1 25, ← cut_at cs 0 1]; rfl
  rw [e, e0, e1, e2, e3]
  rfl
theorem open_sacts {fuel : Nat} {cs : List Value} {x : DataW H × List MemPlace} (h : DataW.trod enc Tryz.prog w base spare held fuel 31 cs = some x) :
    ∃ (A : Option Addr) (len cap : Nat) (l : List Scv), cs = [.slice A len cap] ∧ Shp.Row scS w A len l ∧ (∀ r ∈ l, ∃ m, ScOk w r m) ∧ len ≤ cap ∧ cap ≤ maxLen :=
  open_shp scS (fun r => ∃ m, ScOk w r m) ⟨false, D.zK, none, 0, 0, none, 0, 0⟩ Tryz.underlying31 (by kernel_rfl) (fun _ _ _ h => open_sact h) h
end
end Go.Proofs.YteiikacgcfidmaaGreatDoor
