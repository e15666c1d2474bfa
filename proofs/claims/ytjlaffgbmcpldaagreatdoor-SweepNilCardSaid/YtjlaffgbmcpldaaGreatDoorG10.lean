/-
  
-/
import Derived.Test.YtjlaffgbmcpldaaGreatDoorG07
import Derived.Test.YtjlaffgbmcpldaaGreatDoorG09
import Derived.Laws.CopyRow
import Derived.Test.YtjlaffgbmcpldaaGreatDoorG08
import Derived.Lib.BytesEntry
import Derived.Lib.IndexLaws
import Derived.Laws.BytesString
import Derived.Lib.BufferRead
set_option linter.unusedVariables false
set_option linter.unusedSimpArgs false
namespace Go.Proofs.YtjlaffgbmcpldaaGreatDoor
open Go.RowKit
attribute [local go_sem ↓] Go.wp_at_zero Go.wp_at_succ ld_a ld_n st_a st_n eq_a eq_n ne_a ne_n lv_a lv_n lp_3 lp_4
attribute [local go_sem] run_ld_a run_ld_n run_sw_a run_sw_n run_eq_a run_eq_n run_ne_a run_ne_n run_lv_a run_lv_n st_z ne_z eq_z rd_new rd_old rd_drew rd_drewN rd_set tn_new tn_old tn_drew tn_drewN setRow_alloc run_lp_3 run_lp_4

theorem pk_seg {l : List Nat} (hl : l.length = 10) (k n : Nat) (h : (k = 0 ∧ n = 3) ∨ (k = 3 ∧ n = 4) ∨ (k = 7 ∧ n = 3)) :
  ((pk l k 10).toList.take k ++ ((bys l).drop k).take n ++ (pk l k 10).toList.drop (k + n)).toArray = pk l (k + n) 10 := by
 match l, hl with
 | [a, b, c, d, e, f, g, h', i, j], _ => rcases h with ⟨rfl, rfl⟩ | ⟨rfl, rfl⟩ | ⟨rfl, rfl⟩ <;> rfl
theorem run_seg (W : World) (gd gs : Nat) (td ts ty : TypeId) (x : D.Tg) (k n dLen dCap sLen sCap : Nat) (hd : Blk W gd td (pk x.l k 10)) (hs : Blk W gs ts (nc x)) (h' : (k = 0 ∧ n = 3) ∨ (k = 3 ∧ n = 4) ∨ (k = 7 ∧ n = 3)) (hm : Nat.min sLen dLen = n) :
  (Builtin.copy_ #[210, 210] ty #[.slice (some ⟨gd, k, none⟩) dLen dCap, .slice (some ⟨gs, k, none⟩) sLen sCap]).run Tryz.prog W = .ok (goInt n) (W.setRow gd (pk x.l (k + n) 10)) := by
 have h : k + n ≤ 10 := by omega
 have hn : (((bys x.l).drop k).take n).length = n := by rw [List.length_take, List.length_drop, bys_len, x.len]; omega
 have := run_copy_row (P := Tryz.prog) W 210 210 ty 5 gd k dLen dCap ⟨gs, k, none⟩ sLen sCap (pk x.l k 10) td (((bys x.l).drop k).take n) Tryz.underlying210 (by kernel_rfl) hd.out (by rw [hn, hm]) ?_ (by rw [hn, pk_size]; exact h) ?_
 ·rw [hn, pk_seg x.len k n h'] at this
  exact this
 ·intro j v hv
  have hj : j < n := by have := (List.getElem?_eq_some_iff.1 hv).1; omega
  rw [List.getElem?_take_of_lt hj, List.getElem?_drop] at hv
  rw [add_at, hs.c]
  simp only [nc, List.getElem?_toArray]
  exact hv
 ·intro v hv
  exact bys_one x.l v (List.mem_of_mem_drop (List.mem_of_mem_take hv))
set_option maxRecDepth 100000 in
set_option maxHeartbeats 2000000 in
theorem bytes_any (x : D.Tg) (w : World) : Calls Tryz.prog 164 #[.agg (nc x)] w fun e w' => e = .returned (.agg (nc x)) ∧ Below w.heap.size w w' := by
 go_enter Tryz.func164, Tryz.ntmps164
 obtain ⟨w0, hw0⟩ : ∃ w0, ((w.alloc (.cells (nc x) 37)).alloc (.cells z10 61)).alloc (.cells z10 61) = w0 := ⟨_, rfl⟩
 have hb0 : Below w.heap.size w w0 := by rw [← hw0]; exact (((Below.refl _ _).alloc (Nat.le_refl _) _).alloc (by simp) _).alloc (by simp; omega) _
 have B0 := ((Blk.new w 37 (nc x)).alloc (.cells z10 61)).alloc (.cells z10 61)
 have T1 : tn w0 (w.heap.size + 1) = true := by
  have := (Blk.new (w.alloc (.cells (nc x) 37)) 61 z10).alloc (.cells z10 61)
  rw [World.size_alloc, hw0] at this
  exact tn_of this rfl
 have B2 : Blk w0 (w.heap.size + 2) 61 (pk x.l 0 10) := by
  have := Blk.new ((w.alloc (.cells (nc x) 37)).alloc (.cells z10 61)) 61 z10
  rw [World.size_alloc, World.size_alloc, hw0] at this
  exact this
 rw [hw0] at B0
 go_wp2_with fail
 try rw [hw0]
 clear hw0
 have sa : (fun W => Blk W w.heap.size 37 (nc x) ∧ Blk W (w.heap.size + 2) 61 (pk x.l 0 10) ∧ tn W (w.heap.size + 1) = true ∧ Below w.heap.size w W) w0.drew := ⟨⟨B0.out⟩, ⟨B2.out⟩, (tn_drew _ _).trans T1, hb0.drew⟩
 refine wp_region_noPanic ?_
 refine wp_region_held_drew (S := fun W => Below w.heap.size w W) (by kernel_rfl) sa.2.2.2 (fun _ => ?_)
 refine takeT 0 (some 4) ?va0 ?hya0 sa.2.2.2 ?resta0
 case hya0 => (intro o ho W hW; simp only [gT, gS, gZ, sI] at ho; subst ho; (try dsimp only at hW); go_simp; try rfl)
 try simp only [Act.put, iT, iZ, iS]
 refine takeT 1 (some 5) ?va1 ?hya1 sa.2.2.2 ?resta1
 case hya1 => (intro o ho W hW; simp only [gT, gS, gZ, sI] at ho; subst ho; (try dsimp only at hW); go_simp; try rfl)
 try simp only [Act.put, iT, iZ, iS]
 refine takeT 2 (some 6) ?va2 ?hya2 sa.2.2.2 ?resta2
 case hya2 => (intro o ho W hW; simp only [gT, gS, gZ, sI] at ho; subst ho; (try dsimp only at hW); go_simp; try rfl)
 try simp only [Act.put, iT, iZ, iS]
 refine nextS 3 (by kernel_rfl) (by rfl) (fun o ho K hK => ?_)
 simp only [gT, gS, gZ, sI] at ho; subst ho
 go_simp
 have hrun := run_seg w0.drew (w.heap.size + 2) (w.heap.size) _ _ 3 x 0 3 3 10 3 3 sa.2.1 sa.1 (by decide) (by decide)
 rw [hrun]
 go_simp
 have ta : (fun W => Blk W w.heap.size 37 (nc x) ∧ Blk W (w.heap.size + 2) 61 (pk x.l 3 10) ∧ tn W (w.heap.size + 1) = true ∧ Below w.heap.size w W) (w0.drew.setRow (w.heap.size + 2) (pk x.l 3 10)) := ⟨⟨(heap_setRow _ _ _ _ (by omega)).trans sa.1.out⟩, ⟨setRow_heap _ _ _ _ _ _ sa.2.1.out⟩, (tn_to (heap_setRow _ _ _ _ (by omega))).trans sa.2.2.1, below_setRow sa.2.2.2 (by omega) _⟩
 refine hK.out _ _ ta.2.2.2 (fun _ => ?_)
 clear hK K
 try simp only [Act.put, iT, iZ, iS]
 refine wpAnyH_done (by kernel_rfl) ?_ _
 refine NoPanic.normal ?_
 obtain ⟨W1, hW1⟩ : ∃ W, w0.drew.setRow (w.heap.size + 2) (pk x.l 3 10) = W := ⟨_, rfl⟩
 rw [hW1] at ta
 try rw [hW1]
 clear hW1 sa
 go_wp2_with fail
 have sb : (fun W => Blk W w.heap.size 37 (nc x) ∧ Blk W (w.heap.size + 2) 61 (pk x.l 3 10) ∧ tn W (w.heap.size + 1) = true ∧ Below w.heap.size w W) W1.drew := ⟨⟨ta.1.out⟩, ⟨ta.2.1.out⟩, (tn_drew _ _).trans ta.2.2.1, ta.2.2.2.drew⟩
 refine wp_region_noPanic ?_
 refine wp_region_held_drew (S := fun W => Below w.heap.size w W) (by kernel_rfl) sb.2.2.2 (fun _ => ?_)
 refine takeT 0 (some 8) ?vb0 ?hyb0 sb.2.2.2 ?restb0
 case hyb0 => (intro o ho W hW; simp only [gT, gS, gZ, sI] at ho; subst ho; (try dsimp only at hW); go_simp; try rfl)
 try simp only [Act.put, iT, iZ, iS]
 refine takeT 1 (some 9) ?vb1 ?hyb1 sb.2.2.2 ?restb1
 case hyb1 => (intro o ho W hW; simp only [gT, gS, gZ, sI] at ho; subst ho; (try dsimp only at hW); go_simp; try rfl)
 try simp only [Act.put, iT, iZ, iS]
 refine takeT 2 (some 10) ?vb2 ?hyb2 sb.2.2.2 ?restb2
 case hyb2 => (intro o ho W hW; simp only [gT, gS, gZ, sI] at ho; subst ho; (try dsimp only at hW); go_simp; try rfl)
 try simp only [Act.put, iT, iZ, iS]
 refine nextS 3 (by kernel_rfl) (by rfl) (fun o ho K hK => ?_)
 simp only [gT, gS, gZ, sI] at ho; subst ho
 go_simp
 have hrun := run_seg W1.drew (w.heap.size + 2) (w.heap.size) _ _ 3 x 3 4 4 7 4 4 sb.2.1 sb.1 (by decide) (by decide)
 rw [hrun]
 go_simp
 have tb : (fun W => Blk W w.heap.size 37 (nc x) ∧ Blk W (w.heap.size + 2) 61 (pk x.l 7 10) ∧ tn W (w.heap.size + 1) = true ∧ Below w.heap.size w W) (W1.drew.setRow (w.heap.size + 2) (pk x.l 7 10)) := ⟨⟨(heap_setRow _ _ _ _ (by omega)).trans sb.1.out⟩, ⟨setRow_heap _ _ _ _ _ _ sb.2.1.out⟩, (tn_to (heap_setRow _ _ _ _ (by omega))).trans sb.2.2.1, below_setRow sb.2.2.2 (by omega) _⟩
 refine hK.out _ _ tb.2.2.2 (fun _ => ?_)
 clear hK K
 try simp only [Act.put, iT, iZ, iS]
 refine wpAnyH_done (by kernel_rfl) ?_ _
 refine NoPanic.normal ?_
 obtain ⟨W2, hW2⟩ : ∃ W, W1.drew.setRow (w.heap.size + 2) (pk x.l 7 10) = W := ⟨_, rfl⟩
 rw [hW2] at tb
 try rw [hW2]
 clear hW2 sb
 go_wp2_with fail
 have sc : (fun W => Blk W w.heap.size 37 (nc x) ∧ Blk W (w.heap.size + 2) 61 (pk x.l 7 10) ∧ tn W (w.heap.size + 1) = true ∧ Below w.heap.size w W) W2.drew := ⟨⟨tb.1.out⟩, ⟨tb.2.1.out⟩, (tn_drew _ _).trans tb.2.2.1, tb.2.2.2.drew⟩
 refine wp_region_noPanic ?_
 refine wp_region_held_drew (S := fun W => Below w.heap.size w W) (by kernel_rfl) sc.2.2.2 (fun _ => ?_)
 refine takeT 0 (some 12) ?vc0 ?hyc0 sc.2.2.2 ?restc0
 case hyc0 => (intro o ho W hW; simp only [gT, gS, gZ, sI] at ho; subst ho; (try dsimp only at hW); go_simp; try rfl)
 try simp only [Act.put, iT, iZ, iS]
 refine takeT 1 (some 13) ?vc1 ?hyc1 sc.2.2.2 ?restc1
 case hyc1 => (intro o ho W hW; simp only [gT, gS, gZ, sI] at ho; subst ho; (try dsimp only at hW); go_simp; try rfl)
 try simp only [Act.put, iT, iZ, iS]
 refine takeT 2 (some 14) ?vc2 ?hyc2 sc.2.2.2 ?restc2
 case hyc2 => (intro o ho W hW; simp only [gT, gS, gZ, sI] at ho; subst ho; (try dsimp only at hW); go_simp; try rfl)
 try simp only [Act.put, iT, iZ, iS]
 refine nextS 3 (by kernel_rfl) (by rfl) (fun o ho K hK => ?_)
 simp only [gT, gS, gZ, sI] at ho; subst ho
 go_simp
 have hrun := run_seg W2.drew (w.heap.size + 2) (w.heap.size) _ _ 3 x 7 3 3 3 3 3 sc.2.1 sc.1 (by decide) (by decide)
 rw [hrun]
 go_simp
 have tc : (fun W => Blk W w.heap.size 37 (nc x) ∧ Blk W (w.heap.size + 2) 61 (pk x.l 10 10) ∧ tn W (w.heap.size + 1) = true ∧ Below w.heap.size w W) (W2.drew.setRow (w.heap.size + 2) (pk x.l 10 10)) := ⟨⟨(heap_setRow _ _ _ _ (by omega)).trans sc.1.out⟩, ⟨setRow_heap _ _ _ _ _ _ sc.2.1.out⟩, (tn_to (heap_setRow _ _ _ _ (by omega))).trans sc.2.2.1, below_setRow sc.2.2.2 (by omega) _⟩
 refine hK.out _ _ tc.2.2.2 (fun _ => ?_)
 clear hK K
 try simp only [Act.put, iT, iZ, iS]
 refine wpAnyH_done (by kernel_rfl) ?_ _
 refine NoPanic.normal ?_
 obtain ⟨W3, hW3⟩ : ∃ W, W2.drew.setRow (w.heap.size + 2) (pk x.l 10 10) = W := ⟨_, rfl⟩
 rw [hW3] at tc
 try rw [hW3]
 clear hW3 sc
 obtain ⟨-, t2, t3, t4⟩ := tc
 rw [pk_nc] at t2
 have r2 : rd W3 ⟨w.heap.size + 1 + 1, 0, none⟩ = some x := rd_blk t2
 have hset := rd_set W3 (w.heap.size + 1) x t3
 have b6 := below_setRow t4 (Nat.le_succ _) (nc x)
 go_wp2
 exact bodyPost_ret (v := .agg (nc x)) (by rw [results_cell1 rfl]; simp [asAddr, Result.andThen, lv_of_a hset]) rfl ⟨rfl, b6⟩
end Go.Proofs.YtjlaffgbmcpldaaGreatDoor
set_option maxRecDepth 100000
namespace Go.Proofs.YtjlaffgbmcpldaaGreatDoor
open Go.RowKit
theorem bd25_3 (w : World) (x : D.Ky) : (bd25 #[(0, .int .u8 (x.k : Int)), (1, .int .u8 (x.p : Int)), (2, .int .u8 (x.a : Int))]).run Tryz.prog w = .ok (.agg (kS.v (D.mkK x.k x.p x.a Nm.D.zero D.zero))) w := by
 rw [kv_mk _ _ x.k_lt x.p_lt x.a_lt]
 simp [bd25, Instr.build, go_sem]
 rfl
theorem lvb_of {w : World} {g : Nat} {x : D.Ky} (h : kS.rd w ⟨g, 0, none⟩ = some x) : (loadVar 201 ⟨g, 0, none⟩).run Tryz.prog w = .ok (.agg (kS.v x)) w := (run_lvb w ⟨g, 0, none⟩).trans (by rw [h]; rfl)
theorem seg_n (k p a : Nat) (n m : Nm.D.Nm) (t : D.Tg) : ((kS.v (D.mkK k p a n t)).toList.take 3 ++ bys m.l ++ (kS.v (D.mkK k p a n t)).toList.drop 15).toArray = kS.v (D.mkK k p a m t) := by
 show ((bys (k % 256 :: p % 256 :: a % 256 :: (n.l ++ t.l))).take 3 ++ bys m.l ++ (bys (k % 256 :: p % 256 :: a % 256 :: (n.l ++ t.l))).drop 15).toArray = (bys (k % 256 :: p % 256 :: a % 256 :: (m.l ++ t.l))).toArray
 rw [bys_drop, show (k % 256 :: p % 256 :: a % 256 :: (n.l ++ t.l)).drop 15 = (n.l ++ t.l).drop 12 from rfl, show 12 = n.l.length from n.len.symm, List.drop_left]
 simp [bys]
theorem seg_t (k p a : Nat) (n : Nm.D.Nm) (t m : D.Tg) : ((kS.v (D.mkK k p a n t)).toList.take 15 ++ bys m.l ++ (kS.v (D.mkK k p a n t)).toList.drop 25).toArray = kS.v (D.mkK k p a n m) := by
 show ((bys (k % 256 :: p % 256 :: a % 256 :: (n.l ++ t.l))).take 15 ++ bys m.l ++ (bys (k % 256 :: p % 256 :: a % 256 :: (n.l ++ t.l))).drop 25).toArray = (bys (k % 256 :: p % 256 :: a % 256 :: (n.l ++ m.l))).toArray
 have h1 : (k % 256 :: p % 256 :: a % 256 :: (n.l ++ t.l)).take 15 = k % 256 :: p % 256 :: a % 256 :: n.l := by
  show k % 256 :: p % 256 :: a % 256 :: (n.l ++ t.l).take 12 = _
  rw [show 12 = n.l.length from n.len.symm, List.take_left]
 rw [bys_take, h1, bys_drop, List.drop_of_length_le (by simp [n.len, t.len])]
 simp [bys]
theorem run_cpn (W : World) (gd : Nat) (td ty : TypeId) (gs os k p a : Nat) (n m : Nm.D.Nm) (t : D.Tg) (dCap sCap : Nat) (hd : Blk W gd td (kS.v (D.mkK k p a n t))) (hs : Nm.rd W ⟨gs, os, none⟩ = some m) :
  (Builtin.copy_ #[210, 210] ty #[.slice (some ⟨gd, 3, none⟩) 12 dCap, .slice (some ⟨gs, os, none⟩) 12 sCap]).run Tryz.prog W = .ok (goInt 12) (W.setRow gd (kS.v (D.mkK k p a m t))) := by
 have hl : (bys m.l).length = 12 := by rw [bys_len, m.len]
 have := run_copy_row (P := Tryz.prog) W 210 210 ty 5 gd 3 12 dCap ⟨gs, os, none⟩ 12 sCap (kS.v (D.mkK k p a n t)) td (bys m.l) Tryz.underlying210 (by kernel_rfl) hd.out (by rw [hl]; rfl) (fun j v hv => Nm.at_of hs j v hv) (by rw [hl, kS.v_size]; decide) (bys_one m.l)
 rw [hl, seg_n] at this
 exact this
theorem run_cpt (W : World) (gd : Nat) (td ty : TypeId) (gs os k p a : Nat) (n : Nm.D.Nm) (t m : D.Tg) (dCap sCap : Nat) (hd : Blk W gd td (kS.v (D.mkK k p a n t))) (hs : rd W ⟨gs, os, none⟩ = some m) :
  (Builtin.copy_ #[210, 210] ty #[.slice (some ⟨gd, 15, none⟩) 10 dCap, .slice (some ⟨gs, os, none⟩) 10 sCap]).run Tryz.prog W = .ok (goInt 10) (W.setRow gd (kS.v (D.mkK k p a n m))) := by
 have hl : (bys m.l).length = 10 := by rw [bys_len, m.len]
 have := run_copy_row (P := Tryz.prog) W 210 210 ty 5 gd 15 10 dCap ⟨gs, os, none⟩ 10 sCap (kS.v (D.mkK k p a n t)) td (bys m.l) Tryz.underlying210 (by kernel_rfl) hd.out (by rw [hl]; rfl) (fun j v hv => at_of hs j v hv) (by rw [hl, kS.v_size]; decide) (bys_one m.l)
 rw [hl, seg_t] at this
 exact this
theorem blk_set_ {w : World} {g : Nat} {t : TypeId} {cs cs' : Array Value} (h : Blk w g t cs) : Blk (w.setRow g cs') g t cs' := ⟨by have := h.out; simp [World.setRow, Array.getElem?_modify, this]⟩
attribute [local go_sem ↓] Go.wp_at_zero Go.wp_at_succ ld_k lv_k st_k eq_k ne_k bd_k ld_b lv_b st_b eq_b ne_b bd_25 ld_r lv_r st_rk eq_rk ne_rk bd_r ld_p lv_p st_px bd_p Nm.ld_a Nm.ld_n Nm.st_a Nm.st_n Nm.eq_a Nm.eq_n Nm.ne_a Nm.ne_n Nm.lv_a Nm.lv_n ld_a ld_n st_a st_n eq_a eq_n ne_a ne_n lv_a lv_n
attribute [local go_sem] run_ldk run_lvk run_stk run_eqk run_nek run_bdk_z run_ldb run_lvb run_stb run_eqb run_neb run_ldr run_lvr run_strk run_eqrk run_nerk run_bdr_z run_ldp run_lvp run_stpx Nm.run_ld_a Nm.run_ld_n Nm.run_st_n Nm.run_eq_a Nm.run_eq_n Nm.run_ne_a Nm.run_ne_n Nm.run_lv_a Nm.run_lv_n Nm.rd_new Nm.rd_old Nm.rd_drew Nm.rd_drewN run_ld_a run_ld_n run_sw_a run_sw_n run_eq_a run_eq_n run_ne_a run_ne_n run_lv_a run_lv_n st_z ne_z eq_z rd_new rd_old rd_drew rd_drewN Shp.rd_new Shp.rd_old Shp.rd_drew Shp.rd_drewN Shp.rd_set Shp.tn_new Shp.tn_old Shp.tn_drew Shp.tn_drewN tn_new tn_old tn_drew tn_drewN rd_set setRow_alloc run_stn3 run_stt15 bd25_3

set_option maxHeartbeats 4000000 in
theorem kbytes_any (x : D.Ky) (w : World) : Calls Tryz.prog 131 #[.agg (kS.v x)] w fun e w' => e = .returned (.agg (kS.v x)) ∧ Below w.heap.size w w' := by
 obtain ⟨W0, hW0⟩ : ∃ W, (w.alloc (.cells (kS.v x) 39)).alloc (.cells z25 201) = W := ⟨_, rfl⟩
 have f0 : kS.rd W0 ⟨w.heap.size, 0, none⟩ = some x := by rw [← hW0]; exact Shp.rd_on (Shp.rd_new (S := kS) w _ _ x rfl) (below_alloc_ _ _)
 have k0 : Shp.tn 25 W0 (w.heap.size + 1) = true := by rw [← hW0]; exact Shp.tn_new _ _ _ _ _ (by simp) rfl
 have z0 : Below w.heap.size w W0 := by rw [← hW0]; exact (below_alloc_ _ _).alloc (by simp) _
 have s0 : w.heap.size + 1 < W0.heap.size := by rw [← hW0]; simp
 unfold z25 at hW0
 obtain ⟨c0, c1, c2, c3, c4⟩ := kf0 f0
 obtain ⟨y, hy⟩ : ∃ y, D.mkK x.k x.p x.a Nm.D.zero D.zero = y := ⟨_, rfl⟩
 have g1 := rd_on c4 (below_alloc_ W0 (.cells (kS.v y) 201))
 have CB := Lib.hid (fun w => bytes_any x.t w)
 have hbd := fun w => bd25_3 w x
 rw [hy] at hbd
 have q0 : w.heap.size < W0.heap.size := by omega
 go_enter Tryz.func131, Tryz.ntmps131
 go_wp2_with fail
 try rw [hW0]
 clear hW0
 go_wp2_with (go_at_call 164; (with_reducible refine (CB.out _).mono ?_); rintro e w2 ⟨rfl, b2⟩)
 obtain ⟨W1, hW1⟩ : ∃ W, w2.alloc (.cells (nc x.t) 61) = W := ⟨_, rfl⟩
 have bA : Below W0.heap.size W0 W1 := by rw [← hW1]; exact (below_up (below_alloc_ _ _) (by simp) b2).alloc (by have := b2.size; simp at this; omega) _
 have D1 : Blk W1 W0.heap.size 201 (kS.v y) := by rw [← hW1]; exact ((Blk.new W0 _ (kS.v y)).on b2).alloc _
 have T1 : rd W1 ⟨w2.heap.size, 0, none⟩ = some x.t := by rw [← hW1]; exact rd_new _ _ _ _ rfl
 have N1 : Nm.rd W1 ⟨w.heap.size, 3, none⟩ = some x.n := Nm.rd_on c3 bA
 have k1 := Shp.tn_on k0 bA
 have z1 := below_up z0 z0.size bA
 have s1 : W0.heap.size ≠ w2.heap.size := by have := b2.size; simp at this; omega
 try rw [hW1]
 clear hW1
 obtain ⟨G, hG⟩ : ∃ G, W0.heap.size = G := ⟨_, rfl⟩
 obtain ⟨T, hT⟩ : ∃ T, w2.heap.size = T := ⟨_, rfl⟩
 rw [hG] at D1 s1 s0 q0
 rw [hT] at T1 s1
 try rw [hG]
 try rw [hT]
 clear hT b2 g1 c0 c1 c2 c3 c4 k0 z0 f0 bA CB hG
 subst hy
 have zd : Below w.heap.size w W1.drew := z1.drew
 refine wp_region_noPanic ?_
 refine wp_region_held_drew (S := fun W => Below w.heap.size w W) (by kernel_rfl) zd (fun _ => ?_)
 refine takeT 0 (some 15) (.slice (some ⟨G, 3, none⟩) 12 22) ?hya0 zd ?resta0
 case hya0 => (intro o ho W hW; simp only [gT, gS, gZ, sI] at ho; subst ho; (try dsimp only at hW); go_simp; try rfl)
 try simp only [Act.put, iT, iZ, iS]
 refine takeT 1 (some 16) ?va1 ?hya1 zd ?resta1
 case hya1 => (intro o ho W hW; simp only [gT, gS, gZ, sI] at ho; subst ho; (try dsimp only at hW); go_simp; try rfl)
 try simp only [Act.put, iT, iZ, iS]
 refine takeT 2 (some 17) (.slice (some ⟨w.heap.size, 3, none⟩) 12 12) ?hya2 zd ?resta2
 case hya2 => (intro o ho W hW; simp only [gT, gS, gZ, sI] at ho; subst ho; (try dsimp only at hW); go_simp; try rfl)
 try simp only [Act.put, iT, iZ, iS]
 refine nextS 3 (by kernel_rfl) (by rfl) (fun o ho K hK => ?_)
 simp only [gT, gS, gZ, sI] at ho; subst ho
 go_simp
 have hrun := run_cpn W1.drew G 201 3 w.heap.size 3 x.k x.p x.a Nm.D.zero x.n D.zero 22 12 ⟨D1.out⟩ ((Nm.rd_drew _ _).trans N1)
 rw [hrun]
 go_simp
 have zA : Below w.heap.size w (W1.drew.setRow G (kS.v (D.mkK x.k x.p x.a x.n D.zero))) := below_setRow zd (by omega) _
 refine hK.out _ _ zA (fun _ => ?_)
 clear hK K
 try simp only [Act.put, iT, iZ, iS]
 refine wpAnyH_done (by kernel_rfl) ?_ _
 refine NoPanic.normal ?_
 obtain ⟨W2, hW2⟩ : ∃ W, W1.drew.setRow G (kS.v (D.mkK x.k x.p x.a x.n D.zero)) = W := ⟨_, rfl⟩
 have D2 : Blk W2 G 201 (kS.v (D.mkK x.k x.p x.a x.n D.zero)) := by rw [← hW2]; exact blk_set_ (w := W1.drew) ⟨D1.out⟩
 have T2 : rd W2 ⟨T, 0, none⟩ = some x.t := by rw [← hW2]; exact (rd_far _ _ _ _ (Ne.symm s1)).trans ((rd_drew _ _).trans T1)
 have k2 : Shp.tn 25 W2 (w.heap.size + 1) = true := by rw [← hW2]; exact (Shp.tn_to (heap_setRow _ _ _ _ (by omega))).trans ((Shp.tn_drew _ _ _).trans k1)
 rw [hW2] at zA
 try rw [hW2]
 clear hW2 D1 T1 N1 k1 z1 zd
 go_wp2_with fail
 have zd : Below w.heap.size w W2.drew := zA.drew
 refine wp_region_noPanic ?_
 refine wp_region_held_drew (S := fun W => Below w.heap.size w W) (by kernel_rfl) zd (fun _ => ?_)
 refine takeT 0 (some 19) (.slice (some ⟨G, 15, none⟩) 10 10) ?hyb0 zd ?restb0
 case hyb0 => (intro o ho W hW; simp only [gT, gS, gZ, sI] at ho; subst ho; (try dsimp only at hW); go_simp; try rfl)
 try simp only [Act.put, iT, iZ, iS]
 refine takeT 1 (some 20) (.slice (some ⟨T, 0, none⟩) 10 10) ?hyb1 zd ?restb1
 case hyb1 => (intro o ho W hW; simp only [gT, gS, gZ, sI] at ho; subst ho; (try dsimp only at hW); go_simp; try rfl)
 try simp only [Act.put, iT, iZ, iS]
 refine nextS 2 (by kernel_rfl) (by rfl) (fun o ho K hK => ?_)
 simp only [gT, gS, gZ, sI] at ho; subst ho
 go_simp
 have hrun := run_cpt W2.drew G 201 3 T 0 x.k x.p x.a x.n D.zero x.t 10 10 ⟨D2.out⟩ ((rd_drew _ _).trans T2)
 rw [hrun]
 go_simp
 have zB : Below w.heap.size w (W2.drew.setRow G (kS.v (D.mkK x.k x.p x.a x.n x.t))) := below_setRow zd (by omega) _
 refine hK.out _ _ zB (fun _ => ?_)
 clear hK K
 try simp only [Act.put, iT, iZ, iS]
 refine wpAnyH_done (by kernel_rfl) ?_ _
 refine NoPanic.normal ?_
 obtain ⟨W3, hW3⟩ : ∃ W, W2.drew.setRow G (kS.v (D.mkK x.k x.p x.a x.n x.t)) = W := ⟨_, rfl⟩
 have D3 : Blk W3 G 201 (kS.v (D.mkK x.k x.p x.a x.n x.t)) := by rw [← hW3]; exact blk_set_ (w := W2.drew) ⟨D2.out⟩
 have k3 : Shp.tn 25 W3 (w.heap.size + 1) = true := by rw [← hW3]; exact (Shp.tn_to (heap_setRow _ _ _ _ (by omega))).trans ((Shp.tn_drew _ _ _).trans k2)
 rw [hW3] at zB
 try rw [hW3]
 clear hW3 D2 T2 k2 zA zd
 rw [D.mkK_eta] at D3
 have r3 := Shp.rd_blk (S := kS) D3
 have hset := Shp.rd_set (S := kS) W3 (w.heap.size + 1) x k3
 have z9 := below_setRow zB (Nat.le_succ _) (kS.v x)
 go_wp2
 exact bodyPost_ret (v := .agg (kS.v x)) (by rw [Nm.results_cell1 rfl]; simp [asAddr, Result.andThen, lvb_of hset]) rfl ⟨rfl, z9⟩
end Go.Proofs.YtjlaffgbmcpldaaGreatDoor
namespace Go.Proofs.YtjlaffgbmcpldaaGreatDoor
open Go.RowKit
attribute [local go_sem ↓] Go.wp_at_zero Go.wp_at_succ

def D.cmp : List Nat → List Nat → Int
 | [], [] => 0
 | [], _ :: _ => -1
 | _ :: _, [] => 1
 | x :: a, y :: b => if x = y then D.cmp a b else if x < y then -1 else 1
end Go.Proofs.YtjlaffgbmcpldaaGreatDoor
namespace Go.Proofs.YtjlaffgbmcpldaaGreatDoor
open Go.RowKit
theorem Shp.rd_extk {α : Type} {S : Shp α} (w : World) (p : On) (a : Addr) (h : a.block < w.heap.size) : S.rd (ext w p) a = S.rd w a := Shp.rd_to (ext_heap w p h)
attribute [local go_sem ↓] Go.wp_at_zero Go.wp_at_succ ld_k lv_k st_k eq_k ne_k bd_k ld_b lv_b st_b eq_b ne_b bd_25 ld_r lv_r st_rk eq_rk ne_rk bd_r ld_p lv_p st_px bd_p Nm.ld_a Nm.ld_n Nm.st_a Nm.st_n Nm.eq_a Nm.eq_n Nm.ne_a Nm.ne_n Nm.lv_a Nm.lv_n ld_a ld_n st_a st_n eq_a eq_n ne_a ne_n lv_a lv_n
attribute [local go_sem] run_ldk run_lvk run_stk run_eqk run_nek run_bdk_z run_ldb run_lvb run_stb run_eqb run_neb run_ldr run_lvr run_strk run_eqrk run_nerk run_bdr_z run_ldp run_lvp run_stpx Nm.run_ld_a Nm.run_ld_n Nm.run_st_n Nm.run_eq_a Nm.run_eq_n Nm.run_ne_a Nm.run_ne_n Nm.run_lv_a Nm.run_lv_n Nm.rd_new Nm.rd_old Nm.rd_drew Nm.rd_drewN run_ld_a run_ld_n run_sw_a run_sw_n run_eq_a run_eq_n run_ne_a run_ne_n run_lv_a run_lv_n st_z ne_z eq_z rd_new rd_old rd_drew rd_drewN Shp.rd_new Shp.rd_old Shp.rd_drew Shp.rd_drewN Shp.rd_set Shp.tn_new Shp.tn_old Shp.tn_drew Shp.tn_drewN tn_new tn_old tn_drew tn_drewN rd_set setRow_alloc run_stn3 run_stt15 Shp.rd_extk cell_ext

section
variable {P : Program} {ops : Array Oper} {Q : Exit → Act → World → Prop} {md : Region.Mode} {S : World → Prop}
theorem fork3 (i j k : Nat) {fuel : Nat} {listed : Array Bool} {a : Act} {w : World} (hr : Region.ready md ops listed = [i, j, k])
  (hwi : (ops[i]?).map (fun o => Region.wanted o (yielded ops a.tmps)) = some true) (hwj : (ops[j]?).map (fun o => Region.wanted o (yielded ops a.tmps)) = some true) (hwk : (ops[k]?).map (fun o => Region.wanted o (yielded ops a.tmps)) = some true)
  (hi : ∀ o, ops[i]? = some o → ∀ K : Act → World → Prop, Shut (∀ a w, S w → (S w → wpAnyH P md ops Q S fuel (listed.setIfInBounds i true) a w) → K a w) → Oper.wp P o a w K Q)
  (hj : ∀ o, ops[j]? = some o → ∀ K : Act → World → Prop, Shut (∀ a w, S w → (S w → wpAnyH P md ops Q S fuel (listed.setIfInBounds j true) a w) → K a w) → Oper.wp P o a w K Q)
  (hk : ∀ o, ops[k]? = some o → ∀ K : Act → World → Prop, Shut (∀ a w, S w → (S w → wpAnyH P md ops Q S fuel (listed.setIfInBounds k true) a w) → K a w) → Oper.wp P o a w K Q) : wpAnyH P md ops Q S (fuel + 1) listed a w := by
 cases ho : ops[i]? with
 | none => rw [ho] at hwi; cases hwi
 | some o =>
  cases hp : ops[j]? with
  | none => rw [hp] at hwj; cases hwj
  | some p =>
   cases hq : ops[k]? with
   | none => rw [hq] at hwk; cases hwk
   | some q =>
    rw [ho] at hwi
    rw [hp] at hwj
    rw [hq] at hwk
    simp only [Option.map_some, Option.some.injEq] at hwi hwj hwk
    refine wpAnyH_ready hr (by simp) (AllReadyH.cons ho (fun K hK => ?_) (AllReadyH.cons hp (fun K hK => ?_) (AllReadyH.cons hq (fun K hK => ?_) AllReadyH.nil)))
    ·rw [if_pos hwi]; exact hi o ho K hK
    ·rw [if_pos hwj]; exact hj p hp K hK
    ·rw [if_pos hwk]; exact hk q hq K hK
end

def D.less (l k : List Nat) : Bool := decide (D.cmp l k = -1)
def D.same (l k : List Nat) : Bool := !D.less l k && !D.less k l
end Go.Proofs.YtjlaffgbmcpldaaGreatDoor
