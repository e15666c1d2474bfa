/-
  The program's Bytes and Of: ten bytes, copied part by part.
-/
import Derived.Test.YtkhjnfplcaffnaaGf
import Derived.Test.YtkhjnfplcaffnaaGm
import Derived.Laws.CopyRow
set_option linter.unusedVariables false
set_option linter.unusedSimpArgs false
namespace Go.Proofs.Ytkhjnfplcaffnaa
open Go.RowKit
attribute [local go_sem ↓] Go.wp_at_zero Go.wp_at_succ ld_a ld_n st_a st_n eq_a eq_n ne_a ne_n lv_a lv_n lp_3 lp_4
attribute [local go_sem] run_ld_a run_ld_n run_sw_a run_sw_n run_eq_a run_eq_n run_ne_a run_ne_n run_lv_a run_lv_n st_z ne_z eq_z rd_new rd_old rd_drew rd_drewN rd_set tn_new tn_old tn_drew tn_drewN setRow_alloc run_lp_3 run_lp_4

/-- A part more. -/
theorem pk_seg {l : List Nat} (hl : l.length = 10) (k n : Nat) (h : (k = 0 ∧ n = 3) ∨ (k = 3 ∧ n = 4) ∨ (k = 7 ∧ n = 3)) :
    ((pk l k 10).toList.take k ++ ((bys l).drop k).take n ++ (pk l k 10).toList.drop (k + n)).toArray = pk l (k + n) 10 := by
  match l, hl with
  | [a, b, c, d, e, f, g, h', i, j], _ => rcases h with ⟨rfl, rfl⟩ | ⟨rfl, rfl⟩ | ⟨rfl, rfl⟩ <;> rfl
theorem run_seg (W : World) (gd gs : Nat) (td ts ty : TypeId) (x : D.Tg) (k n dLen dCap sLen sCap : Nat) (hd : Blk W gd td (pk x.l k 10)) (hs : Blk W gs ts (nc x)) (h' : (k = 0 ∧ n = 3) ∨ (k = 3 ∧ n = 4) ∨ (k = 7 ∧ n = 3)) (hm : Nat.min sLen dLen = n) :
    (Builtin.copy_ #[94, 94] ty #[.slice (some ⟨gd, k, none⟩) dLen dCap, .slice (some ⟨gs, k, none⟩) sLen sCap]).run Try.prog W = .ok (goInt n) (W.setRow gd (pk x.l (k + n) 10)) := by
  have h : k + n ≤ 10 := by omega
  have hn : (((bys x.l).drop k).take n).length = n := by rw [List.length_take, List.length_drop, bys_len, x.len]; omega
  have := run_copy_row (P := Try.prog) W 94 94 ty 5 gd k dLen dCap ⟨gs, k, none⟩ sLen sCap (pk x.l k 10) td (((bys x.l).drop k).take n) Try.underlying94 (by kernel_rfl) hd.out (by rw [hn, hm]) ?_ (by rw [hn, pk_size]; exact h) ?_
  · rw [hn, pk_seg x.len k n h'] at this
    exact this
  · intro j v hv
    have hj : j < n := by have := (List.getElem?_eq_some_iff.1 hv).1; omega
    rw [List.getElem?_take_of_lt hj, List.getElem?_drop] at hv
    rw [add_at, hs.c]
    simp only [nc, List.getElem?_toArray]
    exact hv
  · intro v hv
    exact bys_one x.l v (List.mem_of_mem_drop (List.mem_of_mem_take hv))
set_option maxRecDepth 100000 in
set_option maxHeartbeats 2000000 in
theorem bytes_any (x : D.Tg) (w : World) : Calls Try.prog 56 #[.agg (nc x)] w fun e w' => e = .returned (.agg (nc x)) ∧ Below w.heap.size w w' := by
  go_enter Try.func56, Try.ntmps56
  obtain ⟨w0, hw0⟩ : ∃ w0, ((w.alloc (.cells (nc x) 28)).alloc (.cells z10 38)).alloc (.cells z10 38) = w0 := ⟨_, rfl⟩
  have hb0 : Below w.heap.size w w0 := by rw [← hw0]; exact (((Below.refl _ _).alloc (Nat.le_refl _) _).alloc (by simp) _).alloc (by simp; omega) _
  have B0 := ((Blk.new w 28 (nc x)).alloc (.cells z10 38)).alloc (.cells z10 38)
  have T1 : tn w0 (w.heap.size + 1) = true := by
    have := (Blk.new (w.alloc (.cells (nc x) 28)) 38 z10).alloc (.cells z10 38)
    rw [World.size_alloc, hw0] at this
    exact tn_of this rfl
  have B2 : Blk w0 (w.heap.size + 2) 38 (pk x.l 0 10) := by
    have := Blk.new ((w.alloc (.cells (nc x) 28)).alloc (.cells z10 38)) 38 z10
    rw [World.size_alloc, World.size_alloc, hw0] at this
    exact this
  rw [hw0] at B0
  go_wp2_with fail
  try rw [hw0]
  clear hw0
  have sa : (fun W => Blk W w.heap.size 28 (nc x) ∧ Blk W (w.heap.size + 2) 38 (pk x.l 0 10) ∧ tn W (w.heap.size + 1) = true ∧ Below w.heap.size w W) w0.drew := ⟨⟨B0.out⟩, ⟨B2.out⟩, (tn_drew _ _).trans T1, hb0.drew⟩
  refine wp_region_noPanic ?_
  refine wp_region_held_drew (S := fun W => Below w.heap.size w W) (by kernel_rfl) sa.2.2.2 (fun _ => ?_)
  refine takeS 0 (some 4) ?va0 (by kernel_rfl) (by kernel_rfl) (by kernel_rfl) (by kernel_rfl) (fun _ _ _ h => h) (by rfl) ?hya0 sa.2.2.2 ?resta0
  case hya0 => (intro o ho W hW; simp only [List.getElem?_toArray, List.getElem?_cons_succ, List.getElem?_cons_zero, Option.some.injEq] at ho; subst ho; (try dsimp only at hW); skip; go_simp; try rfl)
  try simp only [Act.put, List.setIfInBounds_toArray, List.set_cons_zero, List.set_cons_succ]
  refine takeS 1 (some 5) ?va1 (by kernel_rfl) (by kernel_rfl) (by kernel_rfl) (by kernel_rfl) (fun _ _ _ h => h) (by rfl) ?hya1 sa.2.2.2 ?resta1
  case hya1 => (intro o ho W hW; simp only [List.getElem?_toArray, List.getElem?_cons_succ, List.getElem?_cons_zero, Option.some.injEq] at ho; subst ho; (try dsimp only at hW); skip; go_simp; try rfl)
  try simp only [Act.put, List.setIfInBounds_toArray, List.set_cons_zero, List.set_cons_succ]
  refine takeS 2 (some 6) ?va2 (by kernel_rfl) (by kernel_rfl) (by kernel_rfl) (by kernel_rfl) (fun _ _ _ h => h) (by rfl) ?hya2 sa.2.2.2 ?resta2
  case hya2 => (intro o ho W hW; simp only [List.getElem?_toArray, List.getElem?_cons_succ, List.getElem?_cons_zero, Option.some.injEq] at ho; subst ho; (try dsimp only at hW); skip; go_simp; try rfl)
  try simp only [Act.put, List.setIfInBounds_toArray, List.set_cons_zero, List.set_cons_succ]
  refine nextS 3 (by kernel_rfl) (by rfl) (fun o ho K hK => ?_)
  simp only [List.getElem?_toArray, List.getElem?_cons_succ, List.getElem?_cons_zero, Option.some.injEq] at ho; subst ho
  go_simp
  have hrun := run_seg w0.drew (w.heap.size + 2) (w.heap.size) _ _ 3 x 0 3 3 10 3 3 sa.2.1 sa.1 (by decide) (by decide)
  rw [hrun]
  go_simp
  have ta : (fun W => Blk W w.heap.size 28 (nc x) ∧ Blk W (w.heap.size + 2) 38 (pk x.l 3 10) ∧ tn W (w.heap.size + 1) = true ∧ Below w.heap.size w W) (w0.drew.setRow (w.heap.size + 2) (pk x.l 3 10)) := ⟨⟨(heap_setRow _ _ _ _ (by omega)).trans sa.1.out⟩, ⟨setRow_heap _ _ _ _ _ _ sa.2.1.out⟩, (tn_to (heap_setRow _ _ _ _ (by omega))).trans sa.2.2.1, below_setRow sa.2.2.2 (by omega) _⟩
  refine hK.out _ _ ta.2.2.2 (fun _ => ?_)
  clear hK K
  try simp only [Act.put, List.setIfInBounds_toArray, List.set_cons_zero, List.set_cons_succ]
  refine wpAnyH_done (by kernel_rfl) ?_ _
  refine NoPanic.normal ?_
  obtain ⟨W1, hW1⟩ : ∃ W, w0.drew.setRow (w.heap.size + 2) (pk x.l 3 10) = W := ⟨_, rfl⟩
  rw [hW1] at ta
  try rw [hW1]
  clear hW1 sa
  go_wp2_with fail
  have sb : (fun W => Blk W w.heap.size 28 (nc x) ∧ Blk W (w.heap.size + 2) 38 (pk x.l 3 10) ∧ tn W (w.heap.size + 1) = true ∧ Below w.heap.size w W) W1.drew := ⟨⟨ta.1.out⟩, ⟨ta.2.1.out⟩, (tn_drew _ _).trans ta.2.2.1, ta.2.2.2.drew⟩
  refine wp_region_noPanic ?_
  refine wp_region_held_drew (S := fun W => Below w.heap.size w W) (by kernel_rfl) sb.2.2.2 (fun _ => ?_)
  refine takeS 0 (some 8) ?vb0 (by kernel_rfl) (by kernel_rfl) (by kernel_rfl) (by kernel_rfl) (fun _ _ _ h => h) (by rfl) ?hyb0 sb.2.2.2 ?restb0
  case hyb0 => (intro o ho W hW; simp only [List.getElem?_toArray, List.getElem?_cons_succ, List.getElem?_cons_zero, Option.some.injEq] at ho; subst ho; (try dsimp only at hW); skip; go_simp; try rfl)
  try simp only [Act.put, List.setIfInBounds_toArray, List.set_cons_zero, List.set_cons_succ]
  refine takeS 1 (some 9) ?vb1 (by kernel_rfl) (by kernel_rfl) (by kernel_rfl) (by kernel_rfl) (fun _ _ _ h => h) (by rfl) ?hyb1 sb.2.2.2 ?restb1
  case hyb1 => (intro o ho W hW; simp only [List.getElem?_toArray, List.getElem?_cons_succ, List.getElem?_cons_zero, Option.some.injEq] at ho; subst ho; (try dsimp only at hW); skip; go_simp; try rfl)
  try simp only [Act.put, List.setIfInBounds_toArray, List.set_cons_zero, List.set_cons_succ]
  refine takeS 2 (some 10) ?vb2 (by kernel_rfl) (by kernel_rfl) (by kernel_rfl) (by kernel_rfl) (fun _ _ _ h => h) (by rfl) ?hyb2 sb.2.2.2 ?restb2
  case hyb2 => (intro o ho W hW; simp only [List.getElem?_toArray, List.getElem?_cons_succ, List.getElem?_cons_zero, Option.some.injEq] at ho; subst ho; (try dsimp only at hW); skip; go_simp; try rfl)
  try simp only [Act.put, List.setIfInBounds_toArray, List.set_cons_zero, List.set_cons_succ]
  refine nextS 3 (by kernel_rfl) (by rfl) (fun o ho K hK => ?_)
  simp only [List.getElem?_toArray, List.getElem?_cons_succ, List.getElem?_cons_zero, Option.some.injEq] at ho; subst ho
  go_simp
  have hrun := run_seg W1.drew (w.heap.size + 2) (w.heap.size) _ _ 3 x 3 4 4 7 4 4 sb.2.1 sb.1 (by decide) (by decide)
  rw [hrun]
  go_simp
  have tb : (fun W => Blk W w.heap.size 28 (nc x) ∧ Blk W (w.heap.size + 2) 38 (pk x.l 7 10) ∧ tn W (w.heap.size + 1) = true ∧ Below w.heap.size w W) (W1.drew.setRow (w.heap.size + 2) (pk x.l 7 10)) := ⟨⟨(heap_setRow _ _ _ _ (by omega)).trans sb.1.out⟩, ⟨setRow_heap _ _ _ _ _ _ sb.2.1.out⟩, (tn_to (heap_setRow _ _ _ _ (by omega))).trans sb.2.2.1, below_setRow sb.2.2.2 (by omega) _⟩
  refine hK.out _ _ tb.2.2.2 (fun _ => ?_)
  clear hK K
  try simp only [Act.put, List.setIfInBounds_toArray, List.set_cons_zero, List.set_cons_succ]
  refine wpAnyH_done (by kernel_rfl) ?_ _
  refine NoPanic.normal ?_
  obtain ⟨W2, hW2⟩ : ∃ W, W1.drew.setRow (w.heap.size + 2) (pk x.l 7 10) = W := ⟨_, rfl⟩
  rw [hW2] at tb
  try rw [hW2]
  clear hW2 sb
  go_wp2_with fail
  have sc : (fun W => Blk W w.heap.size 28 (nc x) ∧ Blk W (w.heap.size + 2) 38 (pk x.l 7 10) ∧ tn W (w.heap.size + 1) = true ∧ Below w.heap.size w W) W2.drew := ⟨⟨tb.1.out⟩, ⟨tb.2.1.out⟩, (tn_drew _ _).trans tb.2.2.1, tb.2.2.2.drew⟩
  refine wp_region_noPanic ?_
  refine wp_region_held_drew (S := fun W => Below w.heap.size w W) (by kernel_rfl) sc.2.2.2 (fun _ => ?_)
  refine takeS 0 (some 12) ?vc0 (by kernel_rfl) (by kernel_rfl) (by kernel_rfl) (by kernel_rfl) (fun _ _ _ h => h) (by rfl) ?hyc0 sc.2.2.2 ?restc0
  case hyc0 => (intro o ho W hW; simp only [List.getElem?_toArray, List.getElem?_cons_succ, List.getElem?_cons_zero, Option.some.injEq] at ho; subst ho; (try dsimp only at hW); skip; go_simp; try rfl)
  try simp only [Act.put, List.setIfInBounds_toArray, List.set_cons_zero, List.set_cons_succ]
  refine takeS 1 (some 13) ?vc1 (by kernel_rfl) (by kernel_rfl) (by kernel_rfl) (by kernel_rfl) (fun _ _ _ h => h) (by rfl) ?hyc1 sc.2.2.2 ?restc1
  case hyc1 => (intro o ho W hW; simp only [List.getElem?_toArray, List.getElem?_cons_succ, List.getElem?_cons_zero, Option.some.injEq] at ho; subst ho; (try dsimp only at hW); skip; go_simp; try rfl)
  try simp only [Act.put, List.setIfInBounds_toArray, List.set_cons_zero, List.set_cons_succ]
  refine takeS 2 (some 14) ?vc2 (by kernel_rfl) (by kernel_rfl) (by kernel_rfl) (by kernel_rfl) (fun _ _ _ h => h) (by rfl) ?hyc2 sc.2.2.2 ?restc2
  case hyc2 => (intro o ho W hW; simp only [List.getElem?_toArray, List.getElem?_cons_succ, List.getElem?_cons_zero, Option.some.injEq] at ho; subst ho; (try dsimp only at hW); skip; go_simp; try rfl)
  try simp only [Act.put, List.setIfInBounds_toArray, List.set_cons_zero, List.set_cons_succ]
  refine nextS 3 (by kernel_rfl) (by rfl) (fun o ho K hK => ?_)
  simp only [List.getElem?_toArray, List.getElem?_cons_succ, List.getElem?_cons_zero, Option.some.injEq] at ho; subst ho
  go_simp
  have hrun := run_seg W2.drew (w.heap.size + 2) (w.heap.size) _ _ 3 x 7 3 3 3 3 3 sc.2.1 sc.1 (by decide) (by decide)
  rw [hrun]
  go_simp
  have tc : (fun W => Blk W w.heap.size 28 (nc x) ∧ Blk W (w.heap.size + 2) 38 (pk x.l 10 10) ∧ tn W (w.heap.size + 1) = true ∧ Below w.heap.size w W) (W2.drew.setRow (w.heap.size + 2) (pk x.l 10 10)) := ⟨⟨(heap_setRow _ _ _ _ (by omega)).trans sc.1.out⟩, ⟨setRow_heap _ _ _ _ _ _ sc.2.1.out⟩, (tn_to (heap_setRow _ _ _ _ (by omega))).trans sc.2.2.1, below_setRow sc.2.2.2 (by omega) _⟩
  refine hK.out _ _ tc.2.2.2 (fun _ => ?_)
  clear hK K
  try simp only [Act.put, List.setIfInBounds_toArray, List.set_cons_zero, List.set_cons_succ]
  refine wpAnyH_done (by kernel_rfl) ?_ _
  refine NoPanic.normal ?_
  obtain ⟨W3, hW3⟩ : ∃ W, W2.drew.setRow (w.heap.size + 2) (pk x.l 10 10) = W := ⟨_, rfl⟩
  rw [hW3] at tc
  try rw [hW3]
  clear hW3 sc
  obtain ⟨-, t2, t3, t4⟩ := tc
  rw [pk_nc] at t2
  have r2 : rd W3 ⟨w.heap.size + 1 + 1, 0, none⟩ = some x := rd_blk t2
  have hset := rd_set W3 (w.heap.size + 1) x t3
  have b6 := below_setRow t4 (Nat.le_succ _) (nc x)
  go_wp2
  exact bodyPost_ret (v := .agg (nc x)) (by rw [results_cell1 rfl]; simp [asAddr, Result.andThen, lv_of_a hset]) rfl ⟨rfl, b6⟩
end Go.Proofs.Ytkhjnfplcaffnaa
