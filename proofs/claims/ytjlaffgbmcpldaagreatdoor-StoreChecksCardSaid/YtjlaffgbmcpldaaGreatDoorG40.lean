/-
  
-/
import Derived.Test.YtjlaffgbmcpldaaGreatDoorG07
import Derived.Deep.Slices
import Derived.ChangeSame
import Derived.OpenShut
import Derived.Test.YtjlaffgbmcpldaaGreatDoorG39
import Derived.Test.YtjlaffgbmcpldaaGreatDoorG32
set_option linter.unusedVariables false
set_option linter.unusedSimpArgs false
namespace Go.Proofs.YtjlaffgbmcpldaaGreatDoor
open Go.RowKit Go.ChangeShapes Go.WideShapes Go.Deep

section
variable {H : Type} {enc : TypeId × Value → H} {w : World} {base : Nat} {spare : Nat → Bool} {held : Bool}
theorem open_bytes (t : TypeId) (n : Nat) (hu : Tryz.prog.underlying t = some (.array n 5)) (hC : Tryz.prog.cellsOf t = n) {fuel : Nat} {cs : List Value} {x : DataW H × List MemPlace} (h : DataW.trod enc Tryz.prog w base spare held fuel t cs = some x) :
  ∃ l : List Nat, l.length = n ∧ (∀ b ∈ l, b < 256) ∧ cs = bys l := by
 obtain ⟨xs, m, _, _, hl, hx, hf⟩ := DataW.trod_array hu h
 rw [hC] at hl
 have key : ∀ i, ∃ b : Nat, i < n → b < 256 ∧ cs[i]? = some (.int .u8 b) := by
  intro i
  by_cases hi : i < n
  ·have h1 := hf i hi
   rw [cells_u8, Nat.mul_one] at h1
   have x0 : xs[i]? = some (xs[i]'(by rw [hx]; exact hi)) := List.getElem?_eq_getElem _
   rw [x0] at h1
   obtain ⟨z, e0, _, w0⟩ := DataW.trod_int Tryz.underlying5 h1
   have hb := bounds_u8 w0
   refine ⟨z.toNat, fun _ => ⟨by omega, ?_⟩⟩
   rw [Int.toNat_of_nonneg hb.1]
   have : ((cs.drop i).take 1)[0]? = some (.int .u8 z) := by rw [e0]; rfl
   rwa [List.getElem?_take_of_lt (by omega), List.getElem?_drop, Nat.add_zero] at this
  ·exact ⟨0, fun h => absurd h hi⟩
 refine ⟨(List.range n).map fun i => Classical.choose (key i), by simp, ?_, ?_⟩
 ·intro b hb
  obtain ⟨i, hi, rfl⟩ := List.mem_map.1 hb
  exact (Classical.choose_spec (key i) (List.mem_range.1 hi)).1
 ·apply List.ext_getElem?
  intro i
  by_cases hi : i < n
  ·rw [(Classical.choose_spec (key i) hi).2]
   simp only [bys, List.map_map, List.getElem?_map]
   rw [List.getElem?_range hi]
   rfl
  ·rw [List.getElem?_eq_none (by omega), List.getElem?_eq_none (by rw [bys_len]; simp; omega)]
theorem open_tag {fuel : Nat} {cs : List Value} {x : DataW H × List MemPlace} (h : DataW.trod enc Tryz.prog w base spare held fuel 37 cs = some x) : ∃ y : D.Tg, cs = bys y.l := by
 obtain ⟨xs, m, _, _, hl, hx, hf⟩ := DataW.trod_struct Tryz.underlying37 h
 have hC : Tryz.prog.cellsOf 37 = 10 := by kernel_rfl
 have hC3 : Tryz.prog.cellsOf 34 = 3 := by kernel_rfl
 have hC4 : Tryz.prog.cellsOf 35 = 4 := by kernel_rfl
 rw [hC] at hl
 have hx3 : xs.length = 3 := hx
 have h0 : DataW.trod enc Tryz.prog w base spare held m 34 ((cs.drop 0).take (Tryz.prog.cellsOf 34)) = xs[0]? := hf 0 _ rfl
 have h1 : DataW.trod enc Tryz.prog w base spare held m 35 ((cs.drop 3).take (Tryz.prog.cellsOf 35)) = xs[1]? := hf 1 _ rfl
 have h2 : DataW.trod enc Tryz.prog w base spare held m 34 ((cs.drop 7).take (Tryz.prog.cellsOf 34)) = xs[2]? := hf 2 _ rfl
 rw [hC3] at h0 h2
 rw [hC4] at h1
 rw [List.getElem?_eq_getElem (show 0 < xs.length by omega)] at h0
 rw [List.getElem?_eq_getElem (show 1 < xs.length by omega)] at h1
 rw [List.getElem?_eq_getElem (show 2 < xs.length by omega)] at h2
 obtain ⟨a, a1, a2, a3⟩ := open_bytes _ 3 Tryz.underlying34 hC3 h0
 obtain ⟨b, b1, b2, b3⟩ := open_bytes _ 4 Tryz.underlying35 hC4 h1
 obtain ⟨c, c1, c2, c3⟩ := open_bytes _ 3 Tryz.underlying34 hC3 h2
 refine ⟨⟨a ++ (b ++ c), by simp; omega, fun z hz => ?_⟩, ?_⟩
 ·rcases List.mem_append.1 hz with hz | hz
  ·exact a2 z hz
  ·rcases List.mem_append.1 hz with hz | hz
   ·exact b2 z hz
   ·exact c2 z hz
 ·rw [bys_app, bys_app, ← a3, ← b3, ← c3, List.drop_zero]
  have a1' : (cs.drop 7).take 3 = (cs.drop 3).drop 4 := by
   rw [List.drop_drop, List.take_of_length_le (by simp; omega)]
  rw [a1', List.take_append_drop, List.take_append_drop]
theorem open_name {fuel : Nat} {cs : List Value} {x : DataW H × List MemPlace} (h : DataW.trod enc Tryz.prog w base spare held fuel 33 cs = some x) : ∃ y : Nm.D.Nm, cs = bys y.l := by
 obtain ⟨l, h1, h2, h3⟩ := open_bytes _ 12 Tryz.underlying33 (by kernel_rfl) h
 exact ⟨⟨l, h1, h2⟩, h3⟩
theorem open_u8 {fuel : Nat} {cs : List Value} {x : DataW H × List MemPlace} (h : DataW.trod enc Tryz.prog w base spare held fuel 5 cs = some x) : ∃ b : Nat, b < 256 ∧ cs = [.int .u8 b] := by
 obtain ⟨z, e0, _, w0⟩ := DataW.trod_int Tryz.underlying5 h
 have hb := bounds_u8 w0
 exact ⟨z.toNat, by omega, by rw [Int.toNat_of_nonneg hb.1]; exact e0⟩
theorem list_cut (cs : List Value) (h : cs.length = 25) : cs = (cs.drop 0).take 1 ++ ((cs.drop 1).take 1 ++ ((cs.drop 2).take 1 ++ ((cs.drop 3).take 12 ++ (cs.drop 15).take 10))) := by
 match cs, h with
 | [a0, a1, a2, a3, a4, a5, a6, a7, a8, a9, a10, a11, a12, a13, a14, a15, a16, a17, a18, a19, a20, a21, a22, a23, a24], _ => rfl
theorem open_key {fuel : Nat} {cs : List Value} {x : DataW H × List MemPlace} (h : DataW.trod enc Tryz.prog w base spare held fuel 39 cs = some x) : ∃ y : D.Ky, cs = bys y.l := by
 obtain ⟨xs, m, _, _, hl, hx, hf⟩ := DataW.trod_struct Tryz.underlying39 h
 rw [c_key] at hl
 have hx5 : xs.length = 5 := hx
 have h0 : DataW.trod enc Tryz.prog w base spare held m 5 ((cs.drop 0).take (Tryz.prog.cellsOf 5)) = xs[0]? := hf 0 _ rfl
 have h1 : DataW.trod enc Tryz.prog w base spare held m 5 ((cs.drop 1).take (Tryz.prog.cellsOf 5)) = xs[1]? := hf 1 _ rfl
 have h2 : DataW.trod enc Tryz.prog w base spare held m 5 ((cs.drop 2).take (Tryz.prog.cellsOf 5)) = xs[2]? := hf 2 _ rfl
 have h3 : DataW.trod enc Tryz.prog w base spare held m 33 ((cs.drop 3).take (Tryz.prog.cellsOf 33)) = xs[3]? := hf 3 _ rfl
 have h4 : DataW.trod enc Tryz.prog w base spare held m 37 ((cs.drop 15).take (Tryz.prog.cellsOf 37)) = xs[4]? := hf 4 _ rfl
 rw [cells_u8] at h0 h1 h2
 rw [c_name] at h3
 rw [c_tag] at h4
 rw [List.getElem?_eq_getElem (show 0 < xs.length by omega)] at h0
 rw [List.getElem?_eq_getElem (show 1 < xs.length by omega)] at h1
 rw [List.getElem?_eq_getElem (show 2 < xs.length by omega)] at h2
 rw [List.getElem?_eq_getElem (show 3 < xs.length by omega)] at h3
 rw [List.getElem?_eq_getElem (show 4 < xs.length by omega)] at h4
 obtain ⟨b0, l0, e0⟩ := open_u8 h0
 obtain ⟨b1, l1, e1⟩ := open_u8 h1
 obtain ⟨b2, l2, e2⟩ := open_u8 h2
 obtain ⟨n, e3⟩ := open_name h3
 obtain ⟨t, e4⟩ := open_tag h4
 refine ⟨D.mkK b0 b1 b2 n t, ?_⟩
 rw [list_cut cs hl, e0, e1, e2, e3, e4]
 show _ = bys (b0 % 256 :: b1 % 256 :: b2 % 256 :: (n.l ++ t.l))
 rw [Nat.mod_eq_of_lt l0, Nat.mod_eq_of_lt l1, Nat.mod_eq_of_lt l2]
 simp [bys]
end
end Go.Proofs.YtjlaffgbmcpldaaGreatDoor
set_option linter.unusedVariables false
set_option linter.unusedSimpArgs false
set_option maxRecDepth 100000
namespace Go.Proofs.YtjlaffgbmcpldaaGreatDoor
open Go.RowKit Go.ChangeShapes Go.WideShapes Go.Deep
theorem cut_at (cs : List Value) (i n : Nat) : cs.drop i = (cs.drop i).take n ++ cs.drop (i + n) := by
 rw [← List.drop_drop]; exact (List.take_append_drop _ _).symm
section
variable {H : Type} {enc : TypeId × Value → H} {w : World} {base : Nat} {spare : Nat → Bool} {held : Bool}
theorem open_write {fuel : Nat} {cs : List Value} {x : DataW H × List MemPlace} (h : DataW.trod enc Tryz.prog w base spare held fuel 77 cs = some x) :
  ∃ y : D.Wt, cs = xS.cs y ∧ y.r.wf ∧ y.r.t.size ≤ maxLen := by
 obtain ⟨xs, n, _, _, hl, hx, hf⟩ := DataW.trod_struct Tryz.underlying77 h
 have hC : Tryz.prog.cellsOf 77 = 35 := by kernel_rfl
 have cb : Tryz.prog.cellsOf 4 = 1 := by kernel_rfl
 have cR : Tryz.prog.cellsOf 75 = 9 := by kernel_rfl
 rw [hC] at hl
 have hx3 : xs.length = 3 := hx
 have h0 : DataW.trod enc Tryz.prog w base spare held n 39 ((cs.drop 0).take (Tryz.prog.cellsOf 39)) = xs[0]? := hf 0 _ rfl
 rw [c_key] at h0
 have h1 : DataW.trod enc Tryz.prog w base spare held n 4 ((cs.drop 25).take (Tryz.prog.cellsOf 4)) = xs[1]? := hf 1 _ rfl
 rw [cb] at h1
 have h2 : DataW.trod enc Tryz.prog w base spare held n 75 ((cs.drop 26).take (Tryz.prog.cellsOf 75)) = xs[2]? := hf 2 _ rfl
 rw [cR] at h2
 rw [List.getElem?_eq_getElem (show 0 < xs.length by omega)] at h0
 rw [List.getElem?_eq_getElem (show 1 < xs.length by omega)] at h1
 rw [List.getElem?_eq_getElem (show 2 < xs.length by omega)] at h2
 obtain ⟨k, e0⟩ := open_key h0
 obtain ⟨z1, e1, _⟩ := DataW.trod_bool Tryz.underlying4 h1
 obtain ⟨r, e2, hr, hz⟩ := open_rec h2
 refine ⟨⟨k, z1, r⟩, ?_, hr, hz⟩
 show cs = xcells _
 have e : cs = (cs.drop 0).take 25 ++ ((cs.drop 25).take 1 ++ (cs.drop 26).take 9) := by
  rw [List.take_of_length_le (l := cs.drop 26) (by simp; omega), ← cut_at cs 25 1, ← cut_at cs 0 25]; rfl
 rw [e, e0, e1, e2]
 rfl
theorem open_writes {fuel : Nat} {cs : List Value} {x : DataW H × List MemPlace} (h : DataW.trod enc Tryz.prog w base spare held fuel 22 cs = some x) :
  ∃ (A : Option Addr) (len cap : Nat) (l : List D.Wt), cs = [.slice A len cap] ∧ Shp.Row xS w A len l ∧ (∀ r ∈ l, r.r.wf ∧ r.r.t.size ≤ maxLen) ∧ len ≤ cap ∧ cap ≤ maxLen :=
 open_shp xS (fun r => r.r.wf ∧ r.r.t.size ≤ maxLen) D.zWt Tryz.underlying22 (by kernel_rfl) (fun _ _ _ h => let ⟨r, h1, h2, h3⟩ := open_write h; ⟨r, h1, h2, h3⟩) h
end
section
variable {H : Type} {enc : TypeId × Value → H} {w : World} {base : Nat} {spare : Nat → Bool} {held : Bool}
end
end Go.Proofs.YtjlaffgbmcpldaaGreatDoor
set_option linter.unusedVariables false
set_option linter.unusedSimpArgs false
set_option maxRecDepth 100000
namespace Go.Proofs.YtjlaffgbmcpldaaGreatDoor
open Go.RowKit
theorem cutL_len_ (l : List D.Wt) : (D.cutL l).length ≤ 20 := by simp only [D.cutL, List.length_map, List.length_take]; omega
theorem cutL_wf_ {l : List D.Wt} (h : ∀ x ∈ l, x.r.wf) : ∀ x ∈ D.cutL l, x.r.wf := fun x hx => by
 obtain ⟨y, hy, rfl⟩ := List.mem_map.1 hx
 exact D.cutW_wf (h y (List.mem_of_mem_take hy))
set_option maxHeartbeats 4000000 in
theorem law_checks (hR : KRt) (hRR : RRt) (hLO : LOt) {A : Option Addr} {n c : Nat} {l : List D.Wt} {w : World} (hr : Shp.Row xS w A n l) (hw : ∀ x ∈ l, x.r.wf ∧ x.r.t.size ≤ maxLen) (hn : n ≤ maxLen) : Calls Tryz.prog 3 #[.slice A n c] w fun e w' => e = .returned (.bool true) ∧ Below w.heap.size w w' := by
 have hlw : Hid (∀ x ∈ D.cutL l, x.r.wf) := Lib.hid (cutL_wf_ fun x hx => (hw x hx).1)
 have hl20 := cutL_len_ l
 have CC := Lib.hid (scut_any (c := c) hr (fun x hx => (hw x hx).2) hn)
 have HK := Lib.hid hR
 have HRR := Lib.hid hRR
 have HLO := Lib.hid hLO
 clear hr hw hn hR hRR hLO
 obtain ⟨E, hE⟩ : ∃ E, D.sck (D.cutL l) = E := ⟨_, rfl⟩
 go_enter Tryz.func3, Tryz.ntmps3
 go_wp2_with (first
  | (go_at_call 8; (with_reducible refine CC.out.mono ?_); rintro e w1 ⟨B, m, d, rfl, ho, hm, b1⟩; have HO1 := Lib.hid ho; have HM := Lib.hid hm; have B1 := Lib.hid b1; clear ho hm b1)
  | (go_at_call 9; refine (known_any HK.out _).mono ?_; rintro e w2 ⟨rfl, b2⟩; have HO2 := Lib.hid (HO1.out.on b2); have B2 := Lib.hid (below_up B1.out B1.out.size b2); clear b2)
  | (go_at_call 10; refine (scheck_any HK.out (ow_srow (S := xS) HO2.out) hlw.out (by rw [HM.out]; simp only [maxLen]; omega)).mono ?_; rw [hE]; rintro e w3 ⟨rfl, b3⟩; have HO3 := Lib.hid (HO2.out.on b3); have B3 := Lib.hid (below_up B2.out B2.out.size b3); clear b3)
  | (go_at_call 12; refine (wofs_any HLO.out (ow_srow (S := xS) HO3.out) hlw.out (by rw [HM.out]; omega)).mono ?_; rintro e w4 ⟨B4, d4, rfl, ho4, b4⟩; have HO4 := Lib.hid ho4; have B4_ := Lib.hid (below_up B3.out B3.out.size b4); clear ho4 b4)
  | (go_at_call 11; refine (wcheck_any HRR.out (ow_srow (S := yS) HO4.out) (by rw [HM.out]; omega)).mono ?_; rw [hE]; rintro e w5 ⟨rfl, b5⟩; have B5 := Lib.hid (below_up B4_.out B4_.out.size b5); clear b5))
 go_ret
 exact ⟨rfl, B5.out⟩
end Go.Proofs.YtjlaffgbmcpldaaGreatDoor
