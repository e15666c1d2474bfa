/-
  
-/
import Derived.Test.YtjlaffgbmcpldaaGreatDoorG08
import Derived.Laws.CopyOwn
import Derived.Laws.CopyRow
set_option linter.unusedVariables false
set_option linter.unusedSimpArgs false
namespace Go.Proofs.YtjlaffgbmcpldaaGreatDoor
open Go.RowKit
attribute [local go_sem ↓] Go.wp_at_zero Go.wp_at_succ ld_a ld_n st_a st_n eq_a eq_n ne_a ne_n lv_a lv_n lp_3 lp_4
attribute [local go_sem] run_ld_a run_ld_n run_sw_a run_sw_n run_eq_a run_eq_n run_ne_a run_ne_n run_lv_a run_lv_n st_z ne_z rd_new rd_old rd_drew rd_drewN rd_set tn_new tn_old tn_drew tn_drewN setRow_alloc run_lp_3 run_lp_4

theorem cell_keep {w w1 : World} {p : Addr} {v : Value} (hb : Below w.heap.size w w1) (hc : w.cell? p = some v) : w1.cell? p = some v := (hb.cell (World.block_lt_of_cell? w p hc)).trans hc
theorem Own.far {base n c : Nat} {w : World} {A : Option Addr} {l : List Nat} (h : Own base w A n c l) {p : Addr} (hp : p.block < base) (u : Value) : Own base (w.setCell p u) A n c l := by
 refine ⟨⟨h.row.1, ?_⟩, by have := h.base; simpa [World.setCell] using this⟩
 rcases h.row.2 with hz | ⟨g, cap, cur, e, hg, hh, r⟩
 ·exact .inl hz
 ·exact .inr ⟨g, cap, cur, e, hg, (Below.heap_setCell w p u g (by omega)).trans hh, r⟩
theorem below_on {base : Nat} {w0 w w' : World} (h : Below base w0 w) (hle : base ≤ w.heap.size) (hb : Below w.heap.size w w') : Below base w0 w' := h.trans (hb.mono hle)
theorem results_cell1 {fn : Func} {p : Tmp} {ty : TypeId} (h : fn.results = #[.cell p ty]) (tmps : Array Value) (P : Program) (w : World) :
  (results fn tmps).run P w = ((asAddr (tmps.getD p undef)).run P w).andThen fun a w₁ => (loadVar ty a).run P w₁ := by
 simp only [results, h]
 simp [Sem.run_bind, Result.andThen]
theorem lv_of_a {w : World} {a : Addr} {x : D.Tg} (h : rd w a = some x) : (loadVar 61 a).run Tryz.prog w = .ok (.agg (nc x)) w := (run_lv_a w a).trans (by rw [h]; rfl)
theorem pk_nc {x : D.Tg} : pk x.l 10 10 = nc x := by
 rw [pk_end (.inl x.len.symm) (by rw [x.len]; exact Nat.le_refl _), nc]
 congr 2
 unfold D.padn
 rw [List.take_append_of_le_length (by rw [x.len]; exact Nat.le_refl _), List.take_of_length_le (by rw [x.len]; exact Nat.le_refl _)]
end Go.Proofs.YtjlaffgbmcpldaaGreatDoor
set_option linter.unusedVariables false
set_option linter.unusedSimpArgs false
namespace Go.Proofs.YtjlaffgbmcpldaaGreatDoor
open Go.RowKit
attribute [local go_sem ↓] Go.wp_at_zero Go.wp_at_succ ld_a ld_n st_a st_n eq_a eq_n ne_a ne_n lv_a lv_n lp_3 lp_4
attribute [local go_sem] run_ld_a run_ld_n run_sw_a run_sw_n run_eq_a run_eq_n run_ne_a run_ne_n run_lv_a run_lv_n st_z ne_z rd_new rd_old rd_drew rd_drewN rd_set tn_new tn_old tn_drew tn_drewN setRow_alloc run_lp_3 run_lp_4

theorem blk_at {w : World} {g : Nat} {t : TypeId} {x : D.Tg} {j b : Nat} (h : Blk w g t (nc x)) (hb : x.l[j]? = some b) : w.cell? ⟨g, j, none⟩ = some (.int .u8 b) := by
 rw [h.c j]
 simp [nc, bys, hb]
theorem lv_of_n {w : World} {a : Addr} {x : D.Tg} (h : rd w a = some x) : (loadVar 37 a).run Tryz.prog w = .ok (.agg (nc x)) w := (run_lv_n w a).trans (by rw [h]; rfl)
end Go.Proofs.YtjlaffgbmcpldaaGreatDoor
set_option linter.unusedVariables false
set_option linter.unusedSimpArgs false
namespace Go.Proofs.YtjlaffgbmcpldaaGreatDoor
open Go.RowKit
attribute [local go_sem ↓] Go.wp_at_zero Go.wp_at_succ ld_a ld_n st_a st_n eq_a eq_n ne_a ne_n lv_a lv_n lp_3 lp_4
attribute [local go_sem] run_ld_a run_ld_n run_sw_a run_sw_n run_eq_a run_eq_n run_ne_a run_ne_n run_lv_a run_lv_n st_z ne_z eq_z rd_new rd_old rd_drew rd_drewN rd_set tn_new tn_old tn_drew tn_drewN setRow_alloc run_lp_3 run_lp_4

theorem pk_seg {l : List Nat} (hl : l.length = 10) (k n : Nat) (h : (k = 0 ∧ n = 3) ∨ (k = 3 ∧ n = 4) ∨ (k = 7 ∧ n = 3)) :
  ((pk l k 10).toList.take k ++ ((bys l).drop k).take n ++ (pk l k 10).toList.drop (k + n)).toArray = pk l (k + n) 10 := by
 match l, hl with
 | [a, b, c, d, e, f, g, h', i, j], _ => rcases h with ⟨rfl, rfl⟩ | ⟨rfl, rfl⟩ | ⟨rfl, rfl⟩ <;> rfl
theorem run_seg (W : World) (gd gs : Nat) (td ts ty : TypeId) (x : D.Tg) (k n dLen dCap sLen sCap : Nat) (hd : Blk W gd td (pk x.l k 10)) (hs : Blk W gs ts (nc x)) (h' : (k = 0 ∧ n = 3) ∨ (k = 3 ∧ n = 4) ∨ (k = 7 ∧ n = 3)) (hm : Nat.min sLen dLen = n) :
  (Builtin.copy_ #[210, 210] ty #[.slice (some ⟨gd, k, none⟩) dLen dCap, .slice (some ⟨gs, k, none⟩) sLen sCap]).run Tryz.prog W = .ok (goInt n) (W.setRow gd (pk x.l (k + n) 10)) := by
 have h : k + n ≤ 10 := by omega
 have hn : (((bys x.l).drop k).take n).length = n := by rw [List.length_take, List.length_drop, bys_len, x.len]; omega
 have := run_copy_row (P := Tryz.prog) W 210 210 ty 5 gd k dLen dCap ⟨gs, k, none⟩ sLen sCap (pk x.l k 10) td (((bys x.l).drop k).take n) Tryz.underlying210 (by kernel_rfl) hd.out (by rw [hn, hm]) ?_ (by rw [hn, pk_size]; exact h) ?_
 ·rw [hn, pk_seg x.len k n h'] at this
  exact this
 ·intro j v hv
  have hj : j < n := by have := (List.getElem?_eq_some_iff.1 hv).1; omega
  rw [List.getElem?_take_of_lt hj, List.getElem?_drop] at hv
  rw [add_at, hs.c]
  simp only [nc, List.getElem?_toArray]
  exact hv
 ·intro v hv
  exact bys_one x.l v (List.mem_of_mem_drop (List.mem_of_mem_take hv))
set_option maxRecDepth 100000 in
set_option maxHeartbeats 2000000 in
theorem bytes_any (x : D.Tg) (w : World) : Calls Tryz.prog 164 #[.agg (nc x)] w fun e w' => e = .returned (.agg (nc x)) ∧ Below w.heap.size w w' := by
 go_enter Tryz.func164, Tryz.ntmps164
 obtain ⟨w0, hw0⟩ : ∃ w0, ((w.alloc (.cells (nc x) 37)).alloc (.cells z10 61)).alloc (.cells z10 61) = w0 := ⟨_, rfl⟩
 have hb0 : Below w.heap.size w w0 := by rw [← hw0]; exact (((Below.refl _ _).alloc (Nat.le_refl _) _).alloc (by simp) _).alloc (by simp; omega) _
 have B0 := ((Blk.new w 37 (nc x)).alloc (.cells z10 61)).alloc (.cells z10 61)
 have T1 : tn w0 (w.heap.size + 1) = true := by
  have := (Blk.new (w.alloc (.cells (nc x) 37)) 61 z10).alloc (.cells z10 61)
  rw [World.size_alloc, hw0] at this
  exact tn_of this rfl
 have B2 : Blk w0 (w.heap.size + 2) 61 (pk x.l 0 10) := by
  have := Blk.new ((w.alloc (.cells (nc x) 37)).alloc (.cells z10 61)) 61 z10
  rw [World.size_alloc, World.size_alloc, hw0] at this
  exact this
 rw [hw0] at B0
 go_wp2_with fail
 try rw [hw0]
 clear hw0
 have sa : (fun W => Blk W w.heap.size 37 (nc x) ∧ Blk W (w.heap.size + 2) 61 (pk x.l 0 10) ∧ tn W (w.heap.size + 1) = true ∧ Below w.heap.size w W) w0.drew := ⟨⟨B0.out⟩, ⟨B2.out⟩, (tn_drew _ _).trans T1, hb0.drew⟩
 refine wp_region_noPanic ?_
 refine wp_region_held_drew (S := fun W => Below w.heap.size w W) (by kernel_rfl) sa.2.2.2 (fun _ => ?_)
 refine takeT 0 (some 4) ?va0 ?hya0 sa.2.2.2 ?resta0
 case hya0 => (intro o ho W hW; simp only [gT, gS, gZ, sI] at ho; subst ho; (try dsimp only at hW); go_simp; try rfl)
 try simp only [Act.put, iT, iZ, iS]
 refine takeT 1 (some 5) ?va1 ?hya1 sa.2.2.2 ?resta1
 case hya1 => (intro o ho W hW; simp only [gT, gS, gZ, sI] at ho; subst ho; (try dsimp only at hW); go_simp; try rfl)
 try simp only [Act.put, iT, iZ, iS]
 refine takeT 2 (some 6) ?va2 ?hya2 sa.2.2.2 ?resta2
 case hya2 => (intro o ho W hW; simp only [gT, gS, gZ, sI] at ho; subst ho; (try dsimp only at hW); go_simp; try rfl)
 try simp only [Act.put, iT, iZ, iS]
 refine nextS 3 (by kernel_rfl) (by rfl) (fun o ho K hK => ?_)
 simp only [gT, gS, gZ, sI] at ho; subst ho
 go_simp
 have hrun := run_seg w0.drew (w.heap.size + 2) (w.heap.size) _ _ 3 x 0 3 3 10 3 3 sa.2.1 sa.1 (by decide) (by decide)
 rw [hrun]
 go_simp
 have ta : (fun W => Blk W w.heap.size 37 (nc x) ∧ Blk W (w.heap.size + 2) 61 (pk x.l 3 10) ∧ tn W (w.heap.size + 1) = true ∧ Below w.heap.size w W) (w0.drew.setRow (w.heap.size + 2) (pk x.l 3 10)) := ⟨⟨(heap_setRow _ _ _ _ (by omega)).trans sa.1.out⟩, ⟨setRow_heap _ _ _ _ _ _ sa.2.1.out⟩, (tn_to (heap_setRow _ _ _ _ (by omega))).trans sa.2.2.1, below_setRow sa.2.2.2 (by omega) _⟩
 refine hK.out _ _ ta.2.2.2 (fun _ => ?_)
 clear hK K
 try simp only [Act.put, iT, iZ, iS]
 refine wpAnyH_done (by kernel_rfl) ?_ _
 refine NoPanic.normal ?_
 obtain ⟨W1, hW1⟩ : ∃ W, w0.drew.setRow (w.heap.size + 2) (pk x.l 3 10) = W := ⟨_, rfl⟩
 rw [hW1] at ta
 try rw [hW1]
 clear hW1 sa
 go_wp2_with fail
 have sb : (fun W => Blk W w.heap.size 37 (nc x) ∧ Blk W (w.heap.size + 2) 61 (pk x.l 3 10) ∧ tn W (w.heap.size + 1) = true ∧ Below w.heap.size w W) W1.drew := ⟨⟨ta.1.out⟩, ⟨ta.2.1.out⟩, (tn_drew _ _).trans ta.2.2.1, ta.2.2.2.drew⟩
 refine wp_region_noPanic ?_
 refine wp_region_held_drew (S := fun W => Below w.heap.size w W) (by kernel_rfl) sb.2.2.2 (fun _ => ?_)
 refine takeT 0 (some 8) ?vb0 ?hyb0 sb.2.2.2 ?restb0
 case hyb0 => (intro o ho W hW; simp only [gT, gS, gZ, sI] at ho; subst ho; (try dsimp only at hW); go_simp; try rfl)
 try simp only [Act.put, iT, iZ, iS]
 refine takeT 1 (some 9) ?vb1 ?hyb1 sb.2.2.2 ?restb1
 case hyb1 => (intro o ho W hW; simp only [gT, gS, gZ, sI] at ho; subst ho; (try dsimp only at hW); go_simp; try rfl)
 try simp only [Act.put, iT, iZ, iS]
 refine takeT 2 (some 10) ?vb2 ?hyb2 sb.2.2.2 ?restb2
 case hyb2 => (intro o ho W hW; simp only [gT, gS, gZ, sI] at ho; subst ho; (try dsimp only at hW); go_simp; try rfl)
 try simp only [Act.put, iT, iZ, iS]
 refine nextS 3 (by kernel_rfl) (by rfl) (fun o ho K hK => ?_)
 simp only [gT, gS, gZ, sI] at ho; subst ho
 go_simp
 have hrun := run_seg W1.drew (w.heap.size + 2) (w.heap.size) _ _ 3 x 3 4 4 7 4 4 sb.2.1 sb.1 (by decide) (by decide)
 rw [hrun]
 go_simp
 have tb : (fun W => Blk W w.heap.size 37 (nc x) ∧ Blk W (w.heap.size + 2) 61 (pk x.l 7 10) ∧ tn W (w.heap.size + 1) = true ∧ Below w.heap.size w W) (W1.drew.setRow (w.heap.size + 2) (pk x.l 7 10)) := ⟨⟨(heap_setRow _ _ _ _ (by omega)).trans sb.1.out⟩, ⟨setRow_heap _ _ _ _ _ _ sb.2.1.out⟩, (tn_to (heap_setRow _ _ _ _ (by omega))).trans sb.2.2.1, below_setRow sb.2.2.2 (by omega) _⟩
 refine hK.out _ _ tb.2.2.2 (fun _ => ?_)
 clear hK K
 try simp only [Act.put, iT, iZ, iS]
 refine wpAnyH_done (by kernel_rfl) ?_ _
 refine NoPanic.normal ?_
 obtain ⟨W2, hW2⟩ : ∃ W, W1.drew.setRow (w.heap.size + 2) (pk x.l 7 10) = W := ⟨_, rfl⟩
 rw [hW2] at tb
 try rw [hW2]
 clear hW2 sb
 go_wp2_with fail
 have sc : (fun W => Blk W w.heap.size 37 (nc x) ∧ Blk W (w.heap.size + 2) 61 (pk x.l 7 10) ∧ tn W (w.heap.size + 1) = true ∧ Below w.heap.size w W) W2.drew := ⟨⟨tb.1.out⟩, ⟨tb.2.1.out⟩, (tn_drew _ _).trans tb.2.2.1, tb.2.2.2.drew⟩
 refine wp_region_noPanic ?_
 refine wp_region_held_drew (S := fun W => Below w.heap.size w W) (by kernel_rfl) sc.2.2.2 (fun _ => ?_)
 refine takeT 0 (some 12) ?vc0 ?hyc0 sc.2.2.2 ?restc0
 case hyc0 => (intro o ho W hW; simp only [gT, gS, gZ, sI] at ho; subst ho; (try dsimp only at hW); go_simp; try rfl)
 try simp only [Act.put, iT, iZ, iS]
 refine takeT 1 (some 13) ?vc1 ?hyc1 sc.2.2.2 ?restc1
 case hyc1 => (intro o ho W hW; simp only [gT, gS, gZ, sI] at ho; subst ho; (try dsimp only at hW); go_simp; try rfl)
 try simp only [Act.put, iT, iZ, iS]
 refine takeT 2 (some 14) ?vc2 ?hyc2 sc.2.2.2 ?restc2
 case hyc2 => (intro o ho W hW; simp only [gT, gS, gZ, sI] at ho; subst ho; (try dsimp only at hW); go_simp; try rfl)
 try simp only [Act.put, iT, iZ, iS]
 refine nextS 3 (by kernel_rfl) (by rfl) (fun o ho K hK => ?_)
 simp only [gT, gS, gZ, sI] at ho; subst ho
 go_simp
 have hrun := run_seg W2.drew (w.heap.size + 2) (w.heap.size) _ _ 3 x 7 3 3 3 3 3 sc.2.1 sc.1 (by decide) (by decide)
 rw [hrun]
 go_simp
 have tc : (fun W => Blk W w.heap.size 37 (nc x) ∧ Blk W (w.heap.size + 2) 61 (pk x.l 10 10) ∧ tn W (w.heap.size + 1) = true ∧ Below w.heap.size w W) (W2.drew.setRow (w.heap.size + 2) (pk x.l 10 10)) := ⟨⟨(heap_setRow _ _ _ _ (by omega)).trans sc.1.out⟩, ⟨setRow_heap _ _ _ _ _ _ sc.2.1.out⟩, (tn_to (heap_setRow _ _ _ _ (by omega))).trans sc.2.2.1, below_setRow sc.2.2.2 (by omega) _⟩
 refine hK.out _ _ tc.2.2.2 (fun _ => ?_)
 clear hK K
 try simp only [Act.put, iT, iZ, iS]
 refine wpAnyH_done (by kernel_rfl) ?_ _
 refine NoPanic.normal ?_
 obtain ⟨W3, hW3⟩ : ∃ W, W2.drew.setRow (w.heap.size + 2) (pk x.l 10 10) = W := ⟨_, rfl⟩
 rw [hW3] at tc
 try rw [hW3]
 clear hW3 sc
 obtain ⟨-, t2, t3, t4⟩ := tc
 rw [pk_nc] at t2
 have r2 : rd W3 ⟨w.heap.size + 1 + 1, 0, none⟩ = some x := rd_blk t2
 have hset := rd_set W3 (w.heap.size + 1) x t3
 have b6 := below_setRow t4 (Nat.le_succ _) (nc x)
 go_wp2
 exact bodyPost_ret (v := .agg (nc x)) (by rw [results_cell1 rfl]; simp [asAddr, Result.andThen, lv_of_a hset]) rfl ⟨rfl, b6⟩
end Go.Proofs.YtjlaffgbmcpldaaGreatDoor
