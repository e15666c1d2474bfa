/-
  A key as the document's: the law's Of.
-/
import Derived.Test.YtkhjnfplcaffnaaKrt
import Derived.Test.YtkhjnfplcaffnaaGm
set_option linter.unusedVariables false
set_option linter.unusedSimpArgs false
set_option maxRecDepth 100000
namespace Go.Proofs.Ytkhjnfplcaffnaa
open Go.RowKit

/-- The document's key with the tag's first bytes only. -/
def rpk (x : D.Ky) (i : Nat) : Array Value := ((Value.int .i64 x.k) :: (Value.int .i64 x.p) :: (Value.int .i64 x.a) :: (bys x.n.l ++ bys (D.padn (x.t.l.take i) 10))).toArray
theorem rpk_size (x : D.Ky) (i : Nat) : (rpk x i).size = 25 := by simp [rpk, bys_len, x.n.len, D.padn_len]
theorem rpk_next {x : D.Ky} {i b : Nat} (hb : x.t.l[i]? = some b) (hi : i < 10) : (rpk x i).setIfInBounds (15 + i) (.int .u8 b) = rpk x (i + 1) := by
  have h := pk_next hb hi
  unfold pk at h
  have h' : (bys (D.padn (x.t.l.take i) 10)).set i (.int .u8 b) = bys (D.padn (x.t.l.take (i + 1)) 10) := by simpa using congrArg Array.toList h
  have hn : (bys x.n.l).length = 12 := by rw [bys_len, x.n.len]
  unfold rpk
  rw [← h']
  simp only [List.setIfInBounds_toArray]
  congr 1
  rw [show 15 + i = (12 + i) + 3 by omega]
  simp only [List.set_cons_succ]
  rw [List.set_append_right _ _ (by omega), hn, Nat.add_sub_cancel_left]
theorem rpk_end (x : D.Ky) : rpk x 10 = rS.v (D.toR x) := by
  have : D.padn (x.t.l.take 10) 10 = x.t.l := by
    have := x.t.len
    rw [List.take_of_length_le (by omega)]
    have h := congrArg Array.toList (pk_nc (x := x.t))
    unfold pk nc at h
    rw [List.take_of_length_le (by omega)] at h
    exact bys_inj (by simpa using h)
  unfold rpk
  rw [this]
  rfl
theorem rpk_zero (x : D.Ky) (h : -9223372036854775808 ≤ (x.k : Int) ∧ (x.k : Int) ≤ 9223372036854775807) : rpk x 0 = (((Value.int .i64 x.k) :: (Value.int .i64 x.p) :: (Value.int .i64 x.a) :: (bys x.n.l ++ [.int .u8 0, .int .u8 0, .int .u8 0, .int .u8 0, .int .u8 0, .int .u8 0, .int .u8 0, .int .u8 0, .int .u8 0, .int .u8 0])) : List Value).toArray := rfl
theorem bdr4 (w : World) (x : D.Ky) : (bdr #[(0, .int .i64 x.k), (1, .int .i64 x.p), (2, .int .i64 x.a), (3, .agg (Nm.nc x.n))]).run Try.prog w = .ok (.agg (rpk x 0)) w := by
  obtain ⟨b0, b1, b2, b3, b4, b5, b6, b7, b8, b9, b10, b11, hn⟩ := Nm.twelve x.n
  have : bys x.n.l = [b0, b1, b2, b3, b4, b5, b6, b7, b8, b9, b10, b11] := by simpa [Nm.nc] using congrArg Array.toList hn
  unfold rpk
  rw [hn, this]
  simp [bdr, Instr.build, go_sem]
  rfl
theorem key_cell {w : World} {g : Nat} {x : D.Ky} (h : kS.rd w ⟨g, 0, none⟩ = some x) {j b : Nat} (hb : x.t.l[j]? = some b) : w.cell? ⟨g, 15 + j, none⟩ = some (.int .u8 b) := by
  have := at_of (kf0 h).2.2.2.2 j (.int .u8 b) (bys_at hb)
  rwa [add_o] at this
theorem lvr_of {w : World} {g : Nat} {x : D.Rk} (h : rS.rd w ⟨g, 0, none⟩ = some x) : (loadVar 40 ⟨g, 0, none⟩).run Try.prog w = .ok (.agg (rS.v x)) w := (run_lvr w ⟨g, 0, none⟩).trans (by rw [h]; rfl)
abbrev zr25 : Array Value := #[.int .i64 0, .int .i64 0, .int .i64 0, .int .u8 0, .int .u8 0, .int .u8 0, .int .u8 0, .int .u8 0, .int .u8 0, .int .u8 0, .int .u8 0, .int .u8 0, .int .u8 0, .int .u8 0, .int .u8 0, .int .u8 0, .int .u8 0, .int .u8 0, .int .u8 0, .int .u8 0, .int .u8 0, .int .u8 0, .int .u8 0, .int .u8 0, .int .u8 0]
noncomputable def strkk (g : Nat) (x : D.Ky) (w : World) : Result Unit := (strk (.pointer (some ⟨g, 0, none⟩)) (.agg (rpk x 0))).run Try.prog w
theorem run_strk0 (w : World) (g : Nat) (x : D.Ky) (h : Shp.tn 25 w g = true) : (strk (.pointer (some ⟨g, 0, none⟩)) (.agg (rpk x 0))).run Try.prog w = .ok () (w.setRow g (rpk x 0)) := by
  have e : rpk x 0 = rS.v ⟨x.k, x.p, x.a, x.n, D.zero, (D.toR x).hk, (D.toR x).hp, (D.toR x).ha⟩ := rfl
  rw [e, run_strk, h]
  rfl
attribute [local go_sem ↓] Go.wp_at_zero Go.wp_at_succ ld_k lv_k st_k eq_k ne_k bd_k ld_b lv_b st_b eq_b ne_b bd_25 ld_r lv_r st_rk eq_rk ne_rk bd_r ld_p lv_p st_px bd_p Nm.ld_a Nm.ld_n Nm.st_a Nm.st_n Nm.eq_a Nm.eq_n Nm.ne_a Nm.ne_n Nm.lv_a Nm.lv_n ld_a ld_n st_a st_n eq_a eq_n ne_a ne_n lv_a lv_n
attribute [local go_sem] run_ldk run_lvk run_stk run_eqk run_nek run_bdk_z run_ldb run_lvb run_stb run_eqb run_neb run_ldr run_lvr run_strk run_eqrk run_nerk run_bdr_z run_ldp run_lvp run_stpx Nm.run_ld_a Nm.run_ld_n Nm.run_st_n Nm.run_eq_a Nm.run_eq_n Nm.run_ne_a Nm.run_ne_n Nm.run_lv_a Nm.run_lv_n Nm.rd_new Nm.rd_old Nm.rd_drew Nm.rd_drewN run_ld_a run_ld_n run_sw_a run_sw_n run_eq_a run_eq_n run_ne_a run_ne_n run_lv_a run_lv_n st_z ne_z eq_z rd_new rd_old rd_drew rd_drewN Shp.rd_new Shp.rd_old Shp.rd_drew Shp.rd_drewN Shp.rd_set Shp.tn_new Shp.tn_old Shp.tn_drew Shp.tn_drewN setRow_alloc run_stn3 run_stt15 bdr4

set_option maxHeartbeats 8000000 in
theorem lawof_any (x : D.Ky) (w : World) : Calls Try.prog 8 #[.agg (kS.v x)] w fun e w' => e = .returned (.agg (rS.v (D.toR x))) ∧ Below w.heap.size w w' := by
  obtain ⟨W0, hW0⟩ : ∃ W, (w.alloc (.cells (kS.v x) 30)).alloc (.cells zr25 40) = W := ⟨_, rfl⟩
  have f0 : kS.rd W0 ⟨w.heap.size, 0, none⟩ = some x := by rw [← hW0]; exact Shp.rd_on (Shp.rd_new (S := kS) w _ _ x rfl) (below_alloc_ _ _)
  have k0 : Shp.tn 25 W0 (w.heap.size + 1) = true := by rw [← hW0]; exact Shp.tn_new _ _ _ _ _ (by simp) rfl
  have z0 : Below w.heap.size w W0 := by rw [← hW0]; exact (below_alloc_ _ _).alloc (by simp) _
  have s0 : w.heap.size + 1 < W0.heap.size := by rw [← hW0]; simp
  have e0 : W0.heap.size = w.heap.size + 2 := by rw [← hW0]; simp
  unfold zr25 at hW0
  obtain ⟨c0, c1, c2, c3, c4⟩ := kf0 f0
  have l0 : (x.k : Int) < 256 := by have := x.k_lt; omega
  have l1 : (x.p : Int) < 256 := by have := x.p_lt; omega
  have l2 : (x.a : Int) < 256 := by have := x.a_lt; omega
  have B2 := Blk.new W0 40 (rpk x 0)
  have hst := fun (ty : TypeId) (cs : Array Value) (hs : cs.size = 25) => run_strk0 (W0.alloc (.cells cs ty)) W0.heap.size x (Shp.tn_new 25 W0 _ ty cs rfl hs)
  have hst0 := hst 40 zr25 rfl
  rw [setRow_alloc _ _ _ _ _ rfl] at hst0
  unfold zr25 at hst0
  rw [e0] at B2 hst0
  clear hst
  go_enter Try.func8, Try.ntmps8
  go_wp2
  go_loopw [4] (fun i wr => ∃ k : Nat, k ≤ 10 ∧ i = .int .i64 k ∧ Blk wr (w.heap.size + 2) 40 (rpk x k) ∧ kS.rd wr ⟨w.heap.size, 0, none⟩ = some x ∧ Shp.tn 25 wr (w.heap.size + 1) = true ∧ Below w.heap.size w wr) (fun i _ => 10 - (intOf i).toNat)
  case atStart =>
    refine ⟨0, Nat.zero_le _, rfl, B2, Shp.rd_on f0 (below_alloc_ _ _), Shp.tn_on k0 (below_alloc_ _ _), z0.alloc z0.size _⟩
  case round =>
    obtain ⟨k, hk, rfl, B, fx, tk, hbel⟩ := hrel
    clear B2 hst0 c0 c1 c2 c3 c4 l0 l1 l2
    by_cases hlt : k < 10
    · have hb : ∃ b, x.t.l[k]? = some b := ⟨_, List.getElem?_eq_getElem (by rw [x.t.len]; exact hlt)⟩
      obtain ⟨b, hb⟩ := hb
      have hc := key_cell fx hb
      have hcs : ∃ v, wr.cell? ⟨w.heap.size + 2, 15 + k, none⟩ = some v := by
        rw [B.c]
        exact ⟨_, Array.getElem?_eq_getElem (by rw [rpk_size]; omega)⟩
      obtain ⟨v0, hc0⟩ := hcs
      have hf := B.f (15 + k)
      have hn := B.put (15 + k) (.int .u8 b)
      rw [rpk_next hb hlt] at hn
      have fx' : kS.rd (wr.setCell ⟨w.heap.size + 2, 15 + k, none⟩ (.int .u8 b)) ⟨w.heap.size, 0, none⟩ = some x := (Shp.rd_setCell _ _ _ _ (by show w.heap.size ≠ w.heap.size + 2; omega)).trans fx
      have tk' : Shp.tn 25 (wr.setCell ⟨w.heap.size + 2, 15 + k, none⟩ (.int .u8 b)) (w.heap.size + 1) = true := (Shp.tn_to (Below.heap_setCell _ _ _ _ (by show w.heap.size + 1 ≠ w.heap.size + 2; omega))).trans tk
      have hbel' := hbel.setCell (p := ⟨w.heap.size + 2, 15 + k, none⟩) (by show w.heap.size ≤ w.heap.size + 2; omega) (.int .u8 b)
      clear B fx tk hbel f0 k0 z0 s0 hb
      obtain rfl | rfl | rfl | rfl | rfl | rfl | rfl | rfl | rfl | rfl : k = 0 ∨ k = 1 ∨ k = 2 ∨ k = 3 ∨ k = 4 ∨ k = 5 ∨ k = 6 ∨ k = 7 ∨ k = 8 ∨ k = 9 := by omega
      all_goals
        simp only [Nat.reduceAdd] at hc hc0 hf hn fx' tk' hbel'
        go_wp2
        go_roundw
        case rel => exact ⟨_, by decide, rfl, hn, fx', tk', hbel'⟩
        case measure => simp [intOf]
    · obtain rfl : k = 10 := by omega
      rw [rpk_end] at B
      have r2 := Shp.rd_blk (S := rS) B
      have hset := Shp.rd_set (S := rS) wr (w.heap.size + 1) (D.toR x) tk
      have z9 := below_setRow hbel (Nat.le_succ _) (rS.v (D.toR x))
      go_wp2
      exact bodyPost_ret (v := .agg (rS.v (D.toR x))) (by rw [Nm.results_cell1 rfl]; simp [asAddr, Result.andThen, lvr_of hset]) rfl ⟨rfl, z9⟩
end Go.Proofs.Ytkhjnfplcaffnaa
