/-
  
-/
import Derived.Test.YtjlaffgbmcpldaaGreatDoorG09
import Derived.Deep.DrawnRows
import Derived.Laws.CopyOwn
import Derived.Laws.ResultCell
import Derived.Test.YtjlaffgbmcpldaaGreatDoorG10
import Derived.Test.YtjlaffgbmcpldaaGreatDoorG04
import Derived.Test.YtjlaffgbmcpldaaGreatDoorG33
import Derived.Test.YtjlaffgbmcpldaaGreatDoorG34
import Derived.Test.YtjlaffgbmcpldaaGreatDoorG36
import Derived.Test.YtjlaffgbmcpldaaGreatDoorG35
set_option linter.unusedVariables false
set_option linter.unusedSimpArgs false
set_option maxRecDepth 100000
namespace Go.Proofs.YtjlaffgbmcpldaaGreatDoor
open Go.RowKit

def rpk (x : D.Ky) (i : Nat) : Array Value := ((Value.int .i64 x.k) :: (Value.int .i64 x.p) :: (Value.int .i64 x.a) :: (bys x.n.l ++ bys (D.padn (x.t.l.take i) 10))).toArray
theorem rpk_size (x : D.Ky) (i : Nat) : (rpk x i).size = 25 := by simp [rpk, bys_len, x.n.len, D.padn_len]
theorem rpk_next {x : D.Ky} {i b : Nat} (hb : x.t.l[i]? = some b) (hi : i < 10) : (rpk x i).setIfInBounds (15 + i) (.int .u8 b) = rpk x (i + 1) := by
 have h := pk_next hb hi
 unfold pk at h
 have h' : (bys (D.padn (x.t.l.take i) 10)).set i (.int .u8 b) = bys (D.padn (x.t.l.take (i + 1)) 10) := by simpa using congrArg Array.toList h
 have hn : (bys x.n.l).length = 12 := by rw [bys_len, x.n.len]
 unfold rpk
 rw [← h']
 simp only [List.setIfInBounds_toArray]
 congr 1
 rw [show 15 + i = (12 + i) + 3 by omega]
 simp only [List.set_cons_succ]
 rw [List.set_append_right _ _ (by omega), hn, Nat.add_sub_cancel_left]
theorem rpk_end (x : D.Ky) : rpk x 10 = rS.v (D.toR x) := by
 have : D.padn (x.t.l.take 10) 10 = x.t.l := by
  have := x.t.len
  rw [List.take_of_length_le (by omega)]
  have h := congrArg Array.toList (pk_nc (x := x.t))
  unfold pk nc at h
  rw [List.take_of_length_le (by omega)] at h
  exact bys_inj (by simpa using h)
 unfold rpk
 rw [this]
 rfl
theorem bdr4 (w : World) (x : D.Ky) : (bdr #[(0, .int .i64 x.k), (1, .int .i64 x.p), (2, .int .i64 x.a), (3, .agg (Nm.nc x.n))]).run Tryz.prog w = .ok (.agg (rpk x 0)) w := by
 obtain ⟨b0, b1, b2, b3, b4, b5, b6, b7, b8, b9, b10, b11, hn⟩ := Nm.twelve x.n
 have : bys x.n.l = [b0, b1, b2, b3, b4, b5, b6, b7, b8, b9, b10, b11] := by simpa [Nm.nc] using congrArg Array.toList hn
 unfold rpk
 rw [hn, this]
 simp [bdr, Instr.build, go_sem]
 rfl
theorem key_cell {w : World} {g : Nat} {x : D.Ky} (h : kS.rd w ⟨g, 0, none⟩ = some x) {j b : Nat} (hb : x.t.l[j]? = some b) : w.cell? ⟨g, 15 + j, none⟩ = some (.int .u8 b) := by
 have := at_of (kf0 h).2.2.2.2 j (.int .u8 b) (bys_at hb)
 rwa [add_o] at this
theorem lvr_of {w : World} {g : Nat} {x : D.Rk} (h : rS.rd w ⟨g, 0, none⟩ = some x) : (loadVar 63 ⟨g, 0, none⟩).run Tryz.prog w = .ok (.agg (rS.v x)) w := (run_lvr w ⟨g, 0, none⟩).trans (by rw [h]; rfl)
abbrev zr25 : Array Value := #[.int .i64 0, .int .i64 0, .int .i64 0, .int .u8 0, .int .u8 0, .int .u8 0, .int .u8 0, .int .u8 0, .int .u8 0, .int .u8 0, .int .u8 0, .int .u8 0, .int .u8 0, .int .u8 0, .int .u8 0, .int .u8 0, .int .u8 0, .int .u8 0, .int .u8 0, .int .u8 0, .int .u8 0, .int .u8 0, .int .u8 0, .int .u8 0, .int .u8 0]
theorem run_strk0 (w : World) (g : Nat) (x : D.Ky) (h : Shp.tn 25 w g = true) : (strk (.pointer (some ⟨g, 0, none⟩)) (.agg (rpk x 0))).run Tryz.prog w = .ok () (w.setRow g (rpk x 0)) := by
 have e : rpk x 0 = rS.v ⟨x.k, x.p, x.a, x.n, D.zero, (D.toR x).hk, (D.toR x).hp, (D.toR x).ha⟩ := rfl
 rw [e, run_strk, h]
 rfl
attribute [local go_sem ↓] Go.wp_at_zero Go.wp_at_succ ld_k lv_k st_k eq_k ne_k bd_k ld_b lv_b st_b eq_b ne_b bd_25 ld_r lv_r st_rk eq_rk ne_rk bd_r ld_p lv_p st_px bd_p Nm.ld_a Nm.ld_n Nm.st_a Nm.st_n Nm.eq_a Nm.eq_n Nm.ne_a Nm.ne_n Nm.lv_a Nm.lv_n ld_a ld_n st_a st_n eq_a eq_n ne_a ne_n lv_a lv_n
attribute [local go_sem] run_ldk run_lvk run_stk run_eqk run_nek run_bdk_z run_ldb run_lvb run_stb run_eqb run_neb run_ldr run_lvr run_strk run_eqrk run_nerk run_bdr_z run_ldp run_lvp run_stpx Nm.run_ld_a Nm.run_ld_n Nm.run_st_n Nm.run_eq_a Nm.run_eq_n Nm.run_ne_a Nm.run_ne_n Nm.run_lv_a Nm.run_lv_n Nm.rd_new Nm.rd_old Nm.rd_drew Nm.rd_drewN run_ld_a run_ld_n run_sw_a run_sw_n run_eq_a run_eq_n run_ne_a run_ne_n run_lv_a run_lv_n st_z ne_z eq_z rd_new rd_old rd_drew rd_drewN Shp.rd_new Shp.rd_old Shp.rd_drew Shp.rd_drewN Shp.rd_set Shp.tn_new Shp.tn_old Shp.tn_drew Shp.tn_drewN setRow_alloc run_stn3 run_stt15 bdr4

set_option maxHeartbeats 8000000 in
theorem lawof_any (x : D.Ky) (w : World) : Calls Tryz.prog 26 #[.agg (kS.v x)] w fun e w' => e = .returned (.agg (rS.v (D.toR x))) ∧ Below w.heap.size w w' := by
 obtain ⟨W0, hW0⟩ : ∃ W, (w.alloc (.cells (kS.v x) 39)).alloc (.cells zr25 63) = W := ⟨_, rfl⟩
 have f0 : kS.rd W0 ⟨w.heap.size, 0, none⟩ = some x := by rw [← hW0]; exact Shp.rd_on (Shp.rd_new (S := kS) w _ _ x rfl) (below_alloc_ _ _)
 have k0 : Shp.tn 25 W0 (w.heap.size + 1) = true := by rw [← hW0]; exact Shp.tn_new _ _ _ _ _ (by simp) rfl
 have z0 : Below w.heap.size w W0 := by rw [← hW0]; exact (below_alloc_ _ _).alloc (by simp) _
 have s0 : w.heap.size + 1 < W0.heap.size := by rw [← hW0]; simp
 have e0 : W0.heap.size = w.heap.size + 2 := by rw [← hW0]; simp
 unfold zr25 at hW0
 obtain ⟨c0, c1, c2, c3, c4⟩ := kf0 f0
 have l0 : (x.k : Int) < 256 := by have := x.k_lt; omega
 have l1 : (x.p : Int) < 256 := by have := x.p_lt; omega
 have l2 : (x.a : Int) < 256 := by have := x.a_lt; omega
 have B2 := Blk.new W0 63 (rpk x 0)
 have hst := fun (ty : TypeId) (cs : Array Value) (hs : cs.size = 25) => run_strk0 (W0.alloc (.cells cs ty)) W0.heap.size x (Shp.tn_new 25 W0 _ ty cs rfl hs)
 have hst0 := hst 63 zr25 rfl
 rw [setRow_alloc _ _ _ _ _ rfl] at hst0
 unfold zr25 at hst0
 rw [e0] at B2 hst0
 clear hst
 go_enter Tryz.func26, Tryz.ntmps26
 go_wp2
 go_loopw [4] (fun i wr => ∃ k : Nat, k ≤ 10 ∧ i = .int .i64 k ∧ Blk wr (w.heap.size + 2) 63 (rpk x k) ∧ kS.rd wr ⟨w.heap.size, 0, none⟩ = some x ∧ Shp.tn 25 wr (w.heap.size + 1) = true ∧ Below w.heap.size w wr) (fun i _ => 10 - (intOf i).toNat)
 case atStart =>
  refine ⟨0, Nat.zero_le _, rfl, B2, Shp.rd_on f0 (below_alloc_ _ _), Shp.tn_on k0 (below_alloc_ _ _), z0.alloc z0.size _⟩
 case round =>
  obtain ⟨k, hk, rfl, B, fx, tk, hbel⟩ := hrel
  clear B2 hst0 c0 c1 c2 c3 c4 l0 l1 l2
  by_cases hlt : k < 10
  ·have hb : ∃ b, x.t.l[k]? = some b := ⟨_, List.getElem?_eq_getElem (by rw [x.t.len]; exact hlt)⟩
   obtain ⟨b, hb⟩ := hb
   have hc := key_cell fx hb
   have hcs : ∃ v, wr.cell? ⟨w.heap.size + 2, 15 + k, none⟩ = some v := by
    rw [B.c]
    exact ⟨_, Array.getElem?_eq_getElem (by rw [rpk_size]; omega)⟩
   obtain ⟨v0, hc0⟩ := hcs
   have hf := B.f (15 + k)
   have hn := B.put (15 + k) (.int .u8 b)
   rw [rpk_next hb hlt] at hn
   have fx' : kS.rd (wr.setCell ⟨w.heap.size + 2, 15 + k, none⟩ (.int .u8 b)) ⟨w.heap.size, 0, none⟩ = some x := (Shp.rd_setCell _ _ _ _ (by show w.heap.size ≠ w.heap.size + 2; omega)).trans fx
   have tk' : Shp.tn 25 (wr.setCell ⟨w.heap.size + 2, 15 + k, none⟩ (.int .u8 b)) (w.heap.size + 1) = true := (Shp.tn_to (Below.heap_setCell _ _ _ _ (by show w.heap.size + 1 ≠ w.heap.size + 2; omega))).trans tk
   have hbel' := hbel.setCell (p := ⟨w.heap.size + 2, 15 + k, none⟩) (by show w.heap.size ≤ w.heap.size + 2; omega) (.int .u8 b)
   clear B fx tk hbel f0 k0 z0 s0 hb
   obtain rfl | rfl | rfl | rfl | rfl | rfl | rfl | rfl | rfl | rfl : k = 0 ∨ k = 1 ∨ k = 2 ∨ k = 3 ∨ k = 4 ∨ k = 5 ∨ k = 6 ∨ k = 7 ∨ k = 8 ∨ k = 9 := by omega
   all_goals
    simp only [Nat.reduceAdd] at hc hc0 hf hn fx' tk' hbel'
    go_wp2
    go_roundw
    case rel => exact ⟨_, by decide, rfl, hn, fx', tk', hbel'⟩
    case measure => simp [intOf]
  ·obtain rfl : k = 10 := by omega
   rw [rpk_end] at B
   have r2 := Shp.rd_blk (S := rS) B
   have hset := Shp.rd_set (S := rS) wr (w.heap.size + 1) (D.toR x) tk
   have z9 := below_setRow hbel (Nat.le_succ _) (rS.v (D.toR x))
   go_wp2
   exact bodyPost_ret (v := .agg (rS.v (D.toR x))) (by rw [Nm.results_cell1 rfl]; simp [asAddr, Result.andThen, lvr_of hset]) rfl ⟨rfl, z9⟩
end Go.Proofs.YtjlaffgbmcpldaaGreatDoor
set_option linter.unusedVariables false
set_option linter.unusedSimpArgs false
namespace Go.Proofs.YtjlaffgbmcpldaaGreatDoor
open Go.RowKit
attribute [local go_sem ↓] Go.wp_at_zero Go.wp_at_succ

theorem below_drewN_ {base : Nat} {w0 w : World} (h : Below base w0 w) (q : Nat) : Below base w0 (w.drewN q) := ⟨h.os, h.tape, h.output, h.size, h.block⟩
theorem cells_drewN {w : World} {g : Nat} {a b c : Value} (c0 : w.cell? ⟨g, 0, none⟩ = some a) (c1 : w.cell? ⟨g, 1, none⟩ = some b) (c2 : w.cell? ⟨g, 2, none⟩ = some c) (f0 : w.frozen? ⟨g, 0, none⟩ = false) (f1 : w.frozen? ⟨g, 1, none⟩ = false) (f2 : w.frozen? ⟨g, 2, none⟩ = false) (q : Nat) : True := trivial
set_option maxRecDepth 100000 in
set_option maxHeartbeats 8000000 in
theorem ref_parse (s : ByteArray) (w : World) (hs : s.size ≤ 100) :
  Calls Tryz.prog 127 #[.string s] w fun e w' => e = .returned (.tuple #[av ((D.parse (D.ns s)).getD D.rt), .bool (D.parse (D.ns s)).isSome]) ∧ Below w.heap.size w w' := by
 have hrt := root_test s
 have hlt := D.ns_lt s
 have hlen : (D.ns s).length ≤ 100 := by rw [D.ns_len]; exact hs
 have B2 : Blk (w.alloc (.cells #[.string ⟨#[]⟩, .string ⟨#[]⟩, .string ⟨#[]⟩] 204)) w.heap.size 204 emp := Blk.new w _ _
 have b0 := below_alloc_ w (.cells #[.string ⟨#[]⟩, .string ⟨#[]⟩, .string ⟨#[]⟩] 204)
 by_cases hroot : D.ns s = D.rootT
 ·have hp : D.parse (D.ns s) = some D.rt := by unfold D.parse; rw [if_pos hroot]
  rw [decide_eq_true hroot] at hrt
  have HP := Lib.hid hp
  obtain ⟨⟨c0, c1, c2⟩, f0, f1, f2⟩ := blk3 B2
  have b9 := below_sets b0 (Nat.le_refl _) (.string ⟨#[]⟩) (.string ⟨#[]⟩) (.string ⟨#[]⟩)
  clear hp hroot B2 b0
  go_enter Tryz.func127, Tryz.ntmps127
  go_wp2
  refine bodyPost_ret (v := .tuple #[.agg #[.string ⟨#[]⟩, .string ⟨#[]⟩, .string ⟨#[]⟩], .bool true]) (by simp [results, Tryz.results127, go_sem, *]) rfl ⟨?_, ?_⟩
  ·rw [HP.out]; rfl
  ·first | exact b9 | exact below_alloc_ _ _
 ·rw [decide_eq_false hroot] at hrt
  have cC := Lib.hid (fun w => cut_any s w hs)
  have hlP := lt_cutP hlt
  have hnP : (D.cutP (D.ns s)).length ≤ 100 := Nat.le_trans (D.cutP_len _) hlen
  have hlR := lt_cutR hlt
  have hnR : (D.cutR (D.ns s)).length ≤ 100 := Nat.le_trans (len_cutR _) hlen
  cases hL : D.isL (D.cutP (D.ns s)) with
  | false =>
   have HP := Lib.hid (parse_no hroot hL)
   have cK := Lib.hid (fun w => kind_sb _ hlP hnP w)
   have hsz := D.sb_len (D.cutP (D.ns s))
   have hb : ¬ (kind (D.cutP (D.ns s)) = 1 ∧ 2 ≤ (D.cutP (D.ns s)).length ∧ (D.cutP (D.ns s)).length ≤ 3) := fun ⟨h1, h2, h3⟩ => by
    have : D.isL (D.cutP (D.ns s)) = true := D.isL_iff.2 ⟨by omega, kind_L.1 h1⟩
    rw [hL] at this; cases this
   have hk := kind_in (D.cutP (D.ns s))
   obtain ⟨P, hP⟩ : ∃ P, D.cutP (D.ns s) = P := ⟨_, rfl⟩
   obtain ⟨R, hR⟩ : ∃ R, D.cutR (D.ns s) = R := ⟨_, rfl⟩
   obtain ⟨M, hM⟩ : ∃ M, D.cutM (D.ns s) = M := ⟨_, rfl⟩
   rw [hP] at cK hsz hb hk
   rw [hP, hR, hM] at cC
   clear hP hR hM hL hlP hnP hlR hnR hlt hlen
   obtain ⟨⟨c0, c1, c2⟩, f0, f1, f2⟩ := blk3 B2
   have b0q := fun q => below_drewN_ b0 q
   have C := fun q => cells_drewN c0 c1 c2 f0 f1 f2 q
   clear B2 b0 hroot
   rcases hk with hk | hk | hk
   ·rw [hk] at cK
    have cK' : Hid (∀ w : World, Calls Tryz.prog 160 #[.string (D.sb P)] w fun e w' => e = .returned (.int .i64 0) ∧ w = w') := Lib.hid cK.out
    clear cK
    clear hb
    go_enter Tryz.func127, Tryz.ntmps127
    go_wp2_with (first
     | (go_at_call 159; (with_reducible refine (cC.out _).mono ?_); rintro e w1 ⟨rfl, q, rfl⟩)
     | (go_at_call 160; (with_reducible refine (cK'.out _).mono ?_); rintro e wk ⟨rfl, rfl⟩))
    refine bodyPost_ret (v := .tuple #[.agg #[.string ⟨#[]⟩, .string ⟨#[]⟩, .string ⟨#[]⟩], .bool false]) (by simp [results, Tryz.results127, go_sem, *]) rfl ⟨?_, ?_⟩
    ·rw [HP.out]; rfl
    ·exact below_sets (b0q _) (Nat.le_refl _) _ _ _
   ·rw [hk] at cK
    have cK' : Hid (∀ w : World, Calls Tryz.prog 160 #[.string (D.sb P)] w fun e w' => e = .returned (.int .i64 1) ∧ w = w') := Lib.hid cK.out
    clear cK
    by_cases h2 : P.length < 2
    ·have i1 : ((D.sb P).size : Int) < 2 := by omega
     clear hb hk hsz h2
     go_enter Tryz.func127, Tryz.ntmps127
     go_wp2_with (first
      | (go_at_call 159; (with_reducible refine (cC.out _).mono ?_); rintro e w1 ⟨rfl, q, rfl⟩)
      | (go_at_call 160; (with_reducible refine (cK'.out _).mono ?_); rintro e wk ⟨rfl, rfl⟩))
     refine bodyPost_ret (v := .tuple #[.agg #[.string ⟨#[]⟩, .string ⟨#[]⟩, .string ⟨#[]⟩], .bool false]) (by simp [results, Tryz.results127, go_sem, *]) rfl ⟨?_, ?_⟩
     ·rw [HP.out]; rfl
     ·exact below_sets (b0q _) (Nat.le_refl _) _ _ _
    ·have i1 : ¬ ((D.sb P).size : Int) < 2 := by omega
     have i2 : (2 : Int) ≤ ((D.sb P).size : Int) := by omega
     have i3 : (3 : Int) < ((D.sb P).size : Int) := by omega
     clear hb hk hsz h2
     go_enter Tryz.func127, Tryz.ntmps127
     go_wp2_with (first
      | (go_at_call 159; (with_reducible refine (cC.out _).mono ?_); rintro e w1 ⟨rfl, q, rfl⟩)
      | (go_at_call 160; (with_reducible refine (cK'.out _).mono ?_); rintro e wk ⟨rfl, rfl⟩))
     refine bodyPost_ret (v := .tuple #[.agg #[.string ⟨#[]⟩, .string ⟨#[]⟩, .string ⟨#[]⟩], .bool false]) (by simp [results, Tryz.results127, go_sem, *]) rfl ⟨?_, ?_⟩
     ·rw [HP.out]; rfl
     ·exact below_sets (b0q _) (Nat.le_refl _) _ _ _
   ·rw [hk] at cK
    have cK' : Hid (∀ w : World, Calls Tryz.prog 160 #[.string (D.sb P)] w fun e w' => e = .returned (.int .i64 2) ∧ w = w') := Lib.hid cK.out
    clear cK
    clear hb
    go_enter Tryz.func127, Tryz.ntmps127
    go_wp2_with (first
     | (go_at_call 159; (with_reducible refine (cC.out _).mono ?_); rintro e w1 ⟨rfl, q, rfl⟩)
     | (go_at_call 160; (with_reducible refine (cK'.out _).mono ?_); rintro e wk ⟨rfl, rfl⟩))
    refine bodyPost_ret (v := .tuple #[.agg #[.string ⟨#[]⟩, .string ⟨#[]⟩, .string ⟨#[]⟩], .bool false]) (by simp [results, Tryz.results127, go_sem, *]) rfl ⟨?_, ?_⟩
    ·rw [HP.out]; rfl
    ·exact below_sets (b0q _) (Nat.le_refl _) _ _ _
  | true =>
   have hA : Kept (fin ⟨D.low (D.cutP (D.ns s)), [], []⟩ (D.cutR (D.ns s)) (D.cutM (D.ns s)) = D.parse (D.ns s)) := ⟨parse_fin hroot hL⟩
   obtain ⟨hl1, hl2⟩ := D.isL_iff.1 hL
   have cK := Lib.hid (fun w => kind_sb _ hlP hnP w)
   rw [kind_L.2 hl2] at cK
   have cK' : Hid (∀ w : World, Calls Tryz.prog 160 #[.string (D.sb (D.cutP (D.ns s)))] w fun e w' => e = .returned (.int .i64 1) ∧ w = w') := Lib.hid cK.out
   have cT := Lib.hid (fun w => low_sb _ hlP hnP w)
   have hsz := D.sb_len (D.cutP (D.ns s))
   obtain ⟨P, hP⟩ : ∃ P, D.cutP (D.ns s) = P := ⟨_, rfl⟩
   obtain ⟨R, hR⟩ : ∃ R, D.cutR (D.ns s) = R := ⟨_, rfl⟩
   obtain ⟨M, hM⟩ : ∃ M, D.cutM (D.ns s) = M := ⟨_, rfl⟩
   obtain ⟨ans, hans⟩ : ∃ ans, D.parse (D.ns s) = ans := ⟨_, rfl⟩
   rw [hP] at cK' cT hsz hl1
   rw [hP, hR, hM] at cC
   rw [hP, hR, hM, hans] at hA
   rw [hR] at hlR hnR
   rw [hans]
   clear hP hR hM hL hlP hnP hlt hlen hans cK hl2 hroot
   have i1 : ¬ ((D.sb P).size : Int) < 2 := by omega
   have i2 : (2 : Int) ≤ ((D.sb P).size : Int) := by omega
   have i3 : ((D.sb P).size : Int) ≤ 3 := by omega
   have i4 : ¬ (3 : Int) < ((D.sb P).size : Int) := by omega
   clear hl1 hsz
   go_enter Tryz.func127, Tryz.ntmps127
   go_wp2_with (first
    | (go_at_call 159; (with_reducible refine (cC.out _).mono ?_); rintro e w1 ⟨rfl, q, rfl⟩)
    | (go_at_call 160; (with_reducible refine (cK'.out _).mono ?_); rintro e wk ⟨rfl, rfl⟩)
    | (go_at_call 161; (with_reducible refine (cT.out _).mono ?_); rintro e w3 ⟨rfl, b3⟩))
   clear i1 i2 i3 i4 cC cK' cT
   have hz3 : w.heap.size + 1 ≤ w3.heap.size := by have := b3.size; simp at this; omega
   have B2' := (blk_drewN B2 q).on b3
   have b9 := below_on (below_drewN b0 q) (by simp) b3
   have S0 : St w.heap.size w (w3.alloc (.cells (avc ⟨D.low P, [], []⟩) 204)) w.heap.size w3.heap.size ⟨D.low P, [], []⟩ R M ans :=
    ⟨B2'.alloc _, Blk.new _ _ _, hlR, hnR, hA, b9.alloc (by omega) _, by omega, Nat.le_refl _, by omega⟩
   clear B2 b0 B2' b9 b3 hA hlR hnR
   go_loopw [5, 6] (fun rs m wr => ∃ (t : D.Pt) (rest : List Nat) (more : Bool), rs = .string (D.sb rest) ∧ m = .bool more ∧ St w.heap.size w wr w.heap.size w3.heap.size t rest more ans) (fun rs m _ => mz rs m)
   case atStart => exact ⟨_, _, _, rfl, rfl, S0⟩
   case round =>
    clear S0
    obtain ⟨t, rest, more, rfl, rfl, hs⟩ := hrel
    have hwz := hs.bel.size
    cases more with
    | false =>
     have ha : some t = ans := hs.ans.out
     have HA := Lib.hid ha
     obtain ⟨⟨c0, c1, c2⟩, f0, f1, f2⟩ := blk3 hs.b2
     obtain ⟨⟨d0, d1, d2⟩, _⟩ := blk3 hs.b7
     have b9 := below_sets hs.bel hs.hR (.string (D.sb t.l)) (.string (D.sb t.s)) (.string (D.sb t.r))
     clear ha hs
     go_wp2
     refine bodyPost_ret (v := .tuple #[.agg #[.string (D.sb t.l), .string (D.sb t.s), .string (D.sb t.r)], .bool true]) (by simp [results, Tryz.results127, go_sem, *]) rfl ⟨?_, ?_⟩
     ·rw [← HA.out]; rfl
     ·exact b9
    | true =>
     have cC := Lib.hid (cut_sb rest hs.lt hs.len)
     have hlP := lt_cutP hs.lt
     have hnP : (D.cutP rest).length ≤ 100 := Nat.le_trans (D.cutP_len _) hs.len
     have hlR := lt_cutR hs.lt
     have hnR : (D.cutR rest).length ≤ 100 := Nat.le_trans (len_cutR _) hs.len
     have cK := fun w => kind_sb _ hlP hnP w
     have cU := Lib.hid (fun w => up_sb _ hlP hnP w)
     have cU1 : Hid (∀ w : World, Calls Tryz.prog 161 #[.string ((D.sb (D.cutP rest)).extract 0 1), .bool true] w fun e w' => e = .returned (.string (D.sb (D.up ((D.cutP rest).take 1)))) ∧ Below w.heap.size w w') :=
      Lib.hid fun w => by have := up_sb ((D.cutP rest).take 1) (fun b hb => hlP b (List.mem_of_mem_take hb)) (by simp; omega) w; rwa [← sb_take _ 1 hlP] at this
     have cL1 : Hid (∀ w : World, Calls Tryz.prog 161 #[.string ((D.sb (D.cutP rest)).extract 1 (D.sb (D.cutP rest)).size), .bool false] w fun e w' => e = .returned (.string (D.sb (D.low ((D.cutP rest).drop 1)))) ∧ Below w.heap.size w w') :=
      Lib.hid fun w => by have := low_sb ((D.cutP rest).drop 1) (fun b hb => hlP b (List.mem_of_mem_drop hb)) (by simp; omega) w; rwa [← sb_drop _ 1 hlP] at this
     have hcap : D.sb (D.up ((D.cutP rest).take 1)) ++ D.sb (D.low (D.cutP rest).tail) = D.sb (D.cap (D.cutP rest)) := by rw [← sb_app, ← List.drop_one]; rfl
     have hsum : ¬ 9223372036854775807 < (D.sb (D.up ((D.cutP rest).take 1))).size + (D.sb (D.low (D.cutP rest).tail)).size := by rw [D.sb_len, D.sb_len, D.up_len, D.low_len]; simp; omega
     have hsz := D.sb_len (D.cutP rest)
     have hS1 := fun (h : D.isS (D.cutP rest) = true) hs' hr' => step_s (t := t) h hs' hr'
     have hS2 := fun (h : D.isS (D.cutP rest) = true) hr' => round_none hs.ans (step_s_no (t := t) h hr')
     have hR1 := fun (h : D.isR (D.cutP rest) = true) hr' => step_r (t := t) h hr'
     have hR2 := fun (h : D.isR (D.cutP rest) = true) hr' => round_none hs.ans (step_r_no (t := t) h hr')
     have hN := fun h h' => round_none hs.ans (step_no (t := t) (p := D.cutP rest) h h')
     have hA := fun u hu => round_ans (u := u) hs.ans hu
     have hmz : mz (.string (D.sb (D.cutR rest))) (.bool (D.cutM rest)) < mz (.string (D.sb rest)) (.bool true) := by
      unfold mz
      cases h : D.cutM rest with
      | false => simp
      | true => have := D.cutR_lt h; simp [D.sb_len]; omega
     have HM := Lib.hid hmz
     have hpc := pc (D.cutP rest)
     obtain ⟨P, hP⟩ : ∃ P, D.cutP rest = P := ⟨_, rfl⟩
     obtain ⟨R', hR'⟩ : ∃ R, D.cutR rest = R := ⟨_, rfl⟩
     obtain ⟨M', hM'⟩ : ∃ M, D.cutM rest = M := ⟨_, rfl⟩
     rw [hP] at cK cU cU1 cL1 hcap hsum hsz hS1 hS2 hR1 hR2 hN hA hpc
     rw [hP, hR', hM'] at cC
     rw [hR', hM'] at hA HM
     rw [hR'] at hlR hnR
     clear hP hR' hM' hlP hnP hmz
     have hsq := fun q => st_drew hs q
     have e1 := (empty_of (l := t.s))
     have e2 := (empty_of (l := t.r))
     have HC := Lib.hid hcap
     clear hcap
     rcases hpc with ⟨h, k, n⟩ | ⟨h, k, n⟩ | ⟨h, k, n⟩ | ⟨h, h', k, n, n'⟩ | ⟨h, h', k, n⟩ | ⟨h, h', k⟩
     ·have cK' : Hid (∀ w : World, Calls Tryz.prog 160 #[.string (D.sb P)] w fun e w' => e = .returned (.int .i64 1) ∧ w = w') := Lib.hid (by rw [k] at cK; exact cK)
      have m2 : (((D.sb P).size : Int) == 2) = false := by rw [beq_eq_false_iff_ne]; omega
      have m3 : (((D.sb P).size : Int) == 3) = false := by rw [beq_eq_false_iff_ne]; omega
      have m4 : (((D.sb P).size : Int) == 4) = true := by rw [beq_iff_eq]; omega
      have p1 : 1 ≤ (D.sb P).size := by omega
      have p2 : (1 : Int) ≤ ((D.sb P).size : Int) := by omega
      by_cases hs0 : t.s = []
      ·have x1 := e1.1 hs0
       by_cases hr0 : t.r = []
       ·have x2 := e2.1 hr0
        have HST := hA _ (hS1 h hs0 hr0)
        clear hS1 hS2 hR1 hR2 hN hA hs hsz cK cU e1 e2 hs0 hr0
        go_wp2_with (first
         | (go_at_call 159; (with_reducible refine (cC.out _).mono ?_); rintro e w1 ⟨rfl, q, rfl⟩; have hs1 := hsq q; obtain ⟨⟨c0, c1, c2⟩, f0, f1, f2⟩ := blk3 hs1.b2; obtain ⟨⟨d0, d1, d2⟩, g0, g1, g2⟩ := blk3 hs1.b7)
         | (go_at_call 160; (with_reducible refine (cK'.out _).mono ?_); rintro e wk ⟨rfl, rfl⟩))
        refine wp_region_noPanic ?_
        refine wp_region_held_drew (S := fun _ => True) (by kernel_rfl) trivial (fun _ => ?_)
        refine takeT 0 (some 80) ?va0 ?hya0 trivial ?resta0
        case hya0 => (intro o ho W hW; simp only [gT, gS, gZ, sI] at ho; subst ho; (try dsimp only at hW); go_simp; try rfl)
        try simp only [Act.put, iT, iZ, iS]
        refine takeT 1 (some 81) ?va1 ?hya1 trivial ?resta1
        case hya1 => (intro o ho W hW; simp only [gT, gS, gZ, sI] at ho; subst ho; (try dsimp only at hW); go_simp; try rfl)
        try simp only [Act.put, iT, iZ, iS]
        refine takeT 3 (some 83) ?va3 ?hya3 trivial ?resta3
        case hya3 => (intro o ho W hW; simp only [gT, gS, gZ, sI] at ho; subst ho; (try dsimp only at hW); go_simp; try rfl)
        try simp only [Act.put, iT, iZ, iS]
        refine takeT 4 (some 84) ?va4 ?hya4 trivial ?resta4
        case hya4 => (intro o ho W hW; simp only [gT, gS, gZ, sI] at ho; subst ho; (try dsimp only at hW); go_simp; try rfl)
        try simp only [Act.put, iT, iZ, iS]
        refine nextS 2 (by kernel_rfl) (by rfl) (fun o ho K hK => ?_)
        simp only [gT, gS, gZ, sI] at ho; subst ho
        go_simp
        (go_at_call 161; (with_reducible refine (cU1.out _).mono ?_); rintro e w4 ⟨rfl, b4⟩)
        have hs4 := st_on (st_drew hs1 1) b4 hwz
        refine hK.out _ _ trivial (fun _ => ?_)
        clear hK K
        try simp only [Act.put, iT, iZ, iS]
        refine nextS 5 (by kernel_rfl) (by rfl) (fun o ho K hK => ?_)
        simp only [gT, gS, gZ, sI] at ho; subst ho
        go_simp
        (go_at_call 161; (with_reducible refine (cL1.out _).mono ?_); rintro e w5 ⟨rfl, b5⟩)
        have hs5 := st_on hs4 b5 hs4.bel.size
        obtain ⟨⟨c0', c1', c2'⟩, f0', f1', f2'⟩ := blk3 hs5.b2
        obtain ⟨⟨d0', d1', d2'⟩, g0', g1', g2'⟩ := blk3 hs5.b7
        refine hK.out _ _ trivial (fun _ => ?_)
        clear hK K
        try simp only [Act.put, iT, iZ, iS]
        refine takeT 6 (some 86) ?vb6 ?hyb6 trivial ?restb6
        case hyb6 => (intro o ho W hW; simp only [gT, gS, gZ, sI] at ho; subst ho; (try dsimp only at hW); have hsum2 := hsum; go_simp; try rfl)
        try simp only [Act.put, iT, iZ, iS]
        refine takeT 7 (some 87) ?vb7 ?hyb7 trivial ?restb7
        case hyb7 => (intro o ho W hW; simp only [gT, gS, gZ, sI] at ho; subst ho; (try dsimp only at hW); go_simp; try rfl)
        try simp only [Act.put, iT, iZ, iS]
        refine nextS 8 (by kernel_rfl) (by rfl) (fun o ho K hK => ?_)
        simp only [gT, gS, gZ, sI] at ho; subst ho
        go_simp
        refine hK.out _ _ trivial (fun _ => ?_)
        clear hK K
        try simp only [Act.put, iT, iZ, iS]
        refine wpAnyH_done (by kernel_rfl) ?_ _
        refine NoPanic.normal ?_
        have hs6 := st_put hs5 1 (.string (D.sb (D.cap P))) (u := ⟨t.l, D.cap P, t.r⟩) (by rfl) hlR hnR HST
        rw [← HC.out] at hs6
        clear c0 c1 c2 f0 f1 f2 d0 d1 d2 g0 g1 g2 hs1 hs4 hs5 b4 b5 c0' c1' c2' f0' f1' f2' d0' d1' d2' g0' g1' g2'
        go_wp2
        go_roundw
        case rel => exact ⟨_, _, _, rfl, rfl, hs6⟩
        case measure => exact HM.out
       ·have x2 := e2.2 hr0
        have HNo := Lib.hid (hS2 h (.inr hr0))
        clear hS1 hS2 hR1 hR2 hN hA hs hsz cK cU cU1 cL1 HC e1 e2 HM hlR hnR
        (try clear hr0); (try clear hs0)
        go_wp2_with (first
         | (go_at_call 159; (with_reducible refine (cC.out _).mono ?_); rintro e w1 ⟨rfl, q, rfl⟩; have hs1 := hsq q; obtain ⟨⟨c0, c1, c2⟩, f0, f1, f2⟩ := blk3 hs1.b2; obtain ⟨⟨d0, d1, d2⟩, g0, g1, g2⟩ := blk3 hs1.b7)
         | (go_at_call 160; (with_reducible refine (cK'.out _).mono ?_); rintro e wk ⟨rfl, rfl⟩))
        refine bodyPost_ret (v := .tuple #[.agg #[.string ⟨#[]⟩, .string ⟨#[]⟩, .string ⟨#[]⟩], .bool false]) (by simp [results, Tryz.results127, go_sem, *]) rfl ⟨?_, ?_⟩
        ·rw [HNo.out]; rfl
        ·exact below_sets hs1.bel hs1.hR _ _ _
      ·have x1 := e1.2 hs0
       have HNo := Lib.hid (hS2 h (.inl hs0))
       clear hS1 hS2 hR1 hR2 hN hA hs hsz cK cU cU1 cL1 HC e1 e2 HM hlR hnR
       (try clear hr0); (try clear hs0)
       go_wp2_with (first
        | (go_at_call 159; (with_reducible refine (cC.out _).mono ?_); rintro e w1 ⟨rfl, q, rfl⟩; have hs1 := hsq q; obtain ⟨⟨c0, c1, c2⟩, f0, f1, f2⟩ := blk3 hs1.b2; obtain ⟨⟨d0, d1, d2⟩, g0, g1, g2⟩ := blk3 hs1.b7)
        | (go_at_call 160; (with_reducible refine (cK'.out _).mono ?_); rintro e wk ⟨rfl, rfl⟩))
       refine bodyPost_ret (v := .tuple #[.agg #[.string ⟨#[]⟩, .string ⟨#[]⟩, .string ⟨#[]⟩], .bool false]) (by simp [results, Tryz.results127, go_sem, *]) rfl ⟨?_, ?_⟩
       ·rw [HNo.out]; rfl
       ·exact below_sets hs1.bel hs1.hR _ _ _
     ·have cK' : Hid (∀ w : World, Calls Tryz.prog 160 #[.string (D.sb P)] w fun e w' => e = .returned (.int .i64 1) ∧ w = w') := Lib.hid (by rw [k] at cK; exact cK)
      have m2 : (((D.sb P).size : Int) == 2) = true := by rw [beq_iff_eq]; omega
      have m3 : (((D.sb P).size : Int) == 3) = false := by rw [beq_eq_false_iff_ne]; omega
      have m4 : (((D.sb P).size : Int) == 4) = false := by rw [beq_eq_false_iff_ne]; omega
      by_cases hr0 : t.r = []
      ·have x2 := e2.1 hr0
       have HST := hA _ (hR1 h hr0)
       clear hS1 hS2 hR1 hR2 hN hA hs hsz cK cU1 cL1 HC e1 e2 hr0
       go_wp2_with (first
        | (go_at_call 159; (with_reducible refine (cC.out _).mono ?_); rintro e w1 ⟨rfl, q, rfl⟩; have hs1 := hsq q; obtain ⟨⟨c0, c1, c2⟩, f0, f1, f2⟩ := blk3 hs1.b2; obtain ⟨⟨d0, d1, d2⟩, g0, g1, g2⟩ := blk3 hs1.b7)
        | (go_at_call 160; (with_reducible refine (cK'.out _).mono ?_); rintro e wk ⟨rfl, rfl⟩)
        | (go_at_call 161; (with_reducible refine (cU.out _).mono ?_); rintro e w4 ⟨rfl, b4⟩; have hs4 := st_on hs1 b4 hwz; obtain ⟨⟨c0', c1', c2'⟩, f0', f1', f2'⟩ := blk3 hs4.b2; obtain ⟨⟨d0', d1', d2'⟩, g0', g1', g2'⟩ := blk3 hs4.b7))
       have hs6 := st_put hs4 2 (.string (D.sb (D.up P))) (u := ⟨t.l, t.s, D.up P⟩) (by rfl) hlR hnR HST
       go_roundw
       case rel => exact ⟨_, _, _, rfl, rfl, hs6⟩
       case measure => exact HM.out
      ·have x2 := e2.2 hr0
       have HNo := Lib.hid (hR2 h hr0)
       clear hS1 hS2 hR1 hR2 hN hA hs hsz cK cU cU1 cL1 HC e1 e2 HM hlR hnR
       (try clear hr0); (try clear hs0)
       go_wp2_with (first
        | (go_at_call 159; (with_reducible refine (cC.out _).mono ?_); rintro e w1 ⟨rfl, q, rfl⟩; have hs1 := hsq q; obtain ⟨⟨c0, c1, c2⟩, f0, f1, f2⟩ := blk3 hs1.b2; obtain ⟨⟨d0, d1, d2⟩, g0, g1, g2⟩ := blk3 hs1.b7)
        | (go_at_call 160; (with_reducible refine (cK'.out _).mono ?_); rintro e wk ⟨rfl, rfl⟩))
       refine bodyPost_ret (v := .tuple #[.agg #[.string ⟨#[]⟩, .string ⟨#[]⟩, .string ⟨#[]⟩], .bool false]) (by simp [results, Tryz.results127, go_sem, *]) rfl ⟨?_, ?_⟩
       ·rw [HNo.out]; rfl
       ·exact below_sets hs1.bel hs1.hR _ _ _
     ·have cK' : Hid (∀ w : World, Calls Tryz.prog 160 #[.string (D.sb P)] w fun e w' => e = .returned (.int .i64 2) ∧ w = w') := Lib.hid (by rw [k] at cK; exact cK)
      have m2 : (((D.sb P).size : Int) == 2) = false := by rw [beq_eq_false_iff_ne]; omega
      have m3 : (((D.sb P).size : Int) == 3) = true := by rw [beq_iff_eq]; omega
      have m4 : (((D.sb P).size : Int) == 4) = false := by rw [beq_eq_false_iff_ne]; omega
      by_cases hr0 : t.r = []
      ·have x2 := e2.1 hr0
       have HST := hA _ (hR1 h hr0)
       clear hS1 hS2 hR1 hR2 hN hA hs hsz cK cU1 cL1 HC e1 e2 hr0
       go_wp2_with (first
        | (go_at_call 159; (with_reducible refine (cC.out _).mono ?_); rintro e w1 ⟨rfl, q, rfl⟩; have hs1 := hsq q; obtain ⟨⟨c0, c1, c2⟩, f0, f1, f2⟩ := blk3 hs1.b2; obtain ⟨⟨d0, d1, d2⟩, g0, g1, g2⟩ := blk3 hs1.b7)
        | (go_at_call 160; (with_reducible refine (cK'.out _).mono ?_); rintro e wk ⟨rfl, rfl⟩)
        | (go_at_call 161; (with_reducible refine (cU.out _).mono ?_); rintro e w4 ⟨rfl, b4⟩; have hs4 := st_on hs1 b4 hwz; obtain ⟨⟨c0', c1', c2'⟩, f0', f1', f2'⟩ := blk3 hs4.b2; obtain ⟨⟨d0', d1', d2'⟩, g0', g1', g2'⟩ := blk3 hs4.b7))
       have hs6 := st_put hs4 2 (.string (D.sb (D.up P))) (u := ⟨t.l, t.s, D.up P⟩) (by rfl) hlR hnR HST
       go_roundw
       case rel => exact ⟨_, _, _, rfl, rfl, hs6⟩
       case measure => exact HM.out
      ·have x2 := e2.2 hr0
       have HNo := Lib.hid (hR2 h hr0)
       clear hS1 hS2 hR1 hR2 hN hA hs hsz cK cU cU1 cL1 HC e1 e2 HM hlR hnR
       (try clear hr0); (try clear hs0)
       go_wp2_with (first
        | (go_at_call 159; (with_reducible refine (cC.out _).mono ?_); rintro e w1 ⟨rfl, q, rfl⟩; have hs1 := hsq q; obtain ⟨⟨c0, c1, c2⟩, f0, f1, f2⟩ := blk3 hs1.b2; obtain ⟨⟨d0, d1, d2⟩, g0, g1, g2⟩ := blk3 hs1.b7)
        | (go_at_call 160; (with_reducible refine (cK'.out _).mono ?_); rintro e wk ⟨rfl, rfl⟩))
       refine bodyPost_ret (v := .tuple #[.agg #[.string ⟨#[]⟩, .string ⟨#[]⟩, .string ⟨#[]⟩], .bool false]) (by simp [results, Tryz.results127, go_sem, *]) rfl ⟨?_, ?_⟩
       ·rw [HNo.out]; rfl
       ·exact below_sets hs1.bel hs1.hR _ _ _
     ·have cK' : Hid (∀ w : World, Calls Tryz.prog 160 #[.string (D.sb P)] w fun e w' => e = .returned (.int .i64 1) ∧ w = w') := Lib.hid (by rw [k] at cK; exact cK)
      have m2 : (((D.sb P).size : Int) == 2) = false := by rw [beq_eq_false_iff_ne]; omega
      have m4 : (((D.sb P).size : Int) == 4) = false := by rw [beq_eq_false_iff_ne]; omega
      have HNo := Lib.hid (hN h h')
      clear hS1 hS2 hR1 hR2 hN hA hs hsz cK cU cU1 cL1 HC e1 e2 HM hlR hnR
      (try clear hr0); (try clear hs0)
      go_wp2_with (first
       | (go_at_call 159; (with_reducible refine (cC.out _).mono ?_); rintro e w1 ⟨rfl, q, rfl⟩; have hs1 := hsq q; obtain ⟨⟨c0, c1, c2⟩, f0, f1, f2⟩ := blk3 hs1.b2; obtain ⟨⟨d0, d1, d2⟩, g0, g1, g2⟩ := blk3 hs1.b7)
       | (go_at_call 160; (with_reducible refine (cK'.out _).mono ?_); rintro e wk ⟨rfl, rfl⟩))
      refine bodyPost_ret (v := .tuple #[.agg #[.string ⟨#[]⟩, .string ⟨#[]⟩, .string ⟨#[]⟩], .bool false]) (by simp [results, Tryz.results127, go_sem, *]) rfl ⟨?_, ?_⟩
      ·rw [HNo.out]; rfl
      ·exact below_sets hs1.bel hs1.hR _ _ _
     ·have cK' : Hid (∀ w : World, Calls Tryz.prog 160 #[.string (D.sb P)] w fun e w' => e = .returned (.int .i64 2) ∧ w = w') := Lib.hid (by rw [k] at cK; exact cK)
      have m3 : (((D.sb P).size : Int) == 3) = false := by rw [beq_eq_false_iff_ne]; omega
      have HNo := Lib.hid (hN h h')
      clear hS1 hS2 hR1 hR2 hN hA hs hsz cK cU cU1 cL1 HC e1 e2 HM hlR hnR
      (try clear hr0); (try clear hs0)
      go_wp2_with (first
       | (go_at_call 159; (with_reducible refine (cC.out _).mono ?_); rintro e w1 ⟨rfl, q, rfl⟩; have hs1 := hsq q; obtain ⟨⟨c0, c1, c2⟩, f0, f1, f2⟩ := blk3 hs1.b2; obtain ⟨⟨d0, d1, d2⟩, g0, g1, g2⟩ := blk3 hs1.b7)
       | (go_at_call 160; (with_reducible refine (cK'.out _).mono ?_); rintro e wk ⟨rfl, rfl⟩))
      refine bodyPost_ret (v := .tuple #[.agg #[.string ⟨#[]⟩, .string ⟨#[]⟩, .string ⟨#[]⟩], .bool false]) (by simp [results, Tryz.results127, go_sem, *]) rfl ⟨?_, ?_⟩
      ·rw [HNo.out]; rfl
      ·exact below_sets hs1.bel hs1.hR _ _ _
     ·have cK' : Hid (∀ w : World, Calls Tryz.prog 160 #[.string (D.sb P)] w fun e w' => e = .returned (.int .i64 0) ∧ w = w') := Lib.hid (by rw [k] at cK; exact cK)
      have HNo := Lib.hid (hN h h')
      clear hS1 hS2 hR1 hR2 hN hA hs hsz cK cU cU1 cL1 HC e1 e2 HM hlR hnR
      (try clear hr0); (try clear hs0)
      go_wp2_with (first
       | (go_at_call 159; (with_reducible refine (cC.out _).mono ?_); rintro e w1 ⟨rfl, q, rfl⟩; have hs1 := hsq q; obtain ⟨⟨c0, c1, c2⟩, f0, f1, f2⟩ := blk3 hs1.b2; obtain ⟨⟨d0, d1, d2⟩, g0, g1, g2⟩ := blk3 hs1.b7)
       | (go_at_call 160; (with_reducible refine (cK'.out _).mono ?_); rintro e wk ⟨rfl, rfl⟩))
      refine bodyPost_ret (v := .tuple #[.agg #[.string ⟨#[]⟩, .string ⟨#[]⟩, .string ⟨#[]⟩], .bool false]) (by simp [results, Tryz.results127, go_sem, *]) rfl ⟨?_, ?_⟩
      ·rw [HNo.out]; rfl
      ·exact below_sets hs1.bel hs1.hR _ _ _
end Go.Proofs.YtjlaffgbmcpldaaGreatDoor
set_option linter.unusedVariables false
set_option linter.unusedSimpArgs false
namespace Go.Proofs.YtjlaffgbmcpldaaGreatDoor
open Go.RowKit
attribute [local go_sem ↓] Go.wp_at_zero Go.wp_at_succ ld_a ld_n st_a st_n eq_a eq_n ne_a ne_n lv_a lv_n lp_3 lp_4
attribute [local go_sem] run_ld_a run_ld_n run_sw_a run_sw_n run_eq_a run_eq_n run_ne_a run_ne_n run_lv_a run_lv_n st_z ne_z eq_z rd_new rd_old rd_drew rd_drewN rd_set tn_new tn_old tn_drew tn_drewN setRow_alloc run_lp_3 run_lp_4 rd_ext cell_ext

theorem can_lt {p : D.Pt} (h : D.Can p) : (∀ b ∈ p.l, b < 256) ∧ (∀ b ∈ p.s, b < 256) ∧ (∀ b ∈ p.r, b < 256) :=
 ⟨D.ch_lt (D.can_ch h).1, D.ch_lt (D.can_ch h).2.1, D.ch_lt (D.can_ch h).2.2⟩
end Go.Proofs.YtjlaffgbmcpldaaGreatDoor
