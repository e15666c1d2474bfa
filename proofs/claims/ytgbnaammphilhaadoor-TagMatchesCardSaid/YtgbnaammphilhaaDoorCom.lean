/-
  The program's Common and Below.
-/
import Derived.Test.YtgbnaammphilhaaDoorMat
import Derived.Test.YtgbnaammphilhaaDoorTo
set_option linter.unusedVariables false
set_option linter.unusedSimpArgs false
namespace Go.Proofs.YtgbnaammphilhaaDoor
open Go.RowKit
attribute [local go_sem ↓] Go.wp_at_zero Go.wp_at_succ ld_a ld_n st_a st_n eq_a eq_n ne_a ne_n bsl_n lv_a lv_n lp_3 lp_4
attribute [local go_sem] run_ld_a run_ld_n run_sw_a run_sw_n run_eq_a run_eq_n run_ne_a run_ne_n run_bsl1_n run_lv_a run_lv_n st_z ne_z eq_z rd_new rd_old rd_drew rd_drewN rd_set tn_new tn_old tn_drew tn_drewN setRow_alloc run_lp_3 run_lp_4

def D.common (a b : D.Tg) : D.Tg := (D.find (D.cht a) (D.cht b)).getD D.zero
def D.below (a b : D.Tg) : Bool := (D.find (D.cht a) [b]).isSome
set_option maxRecDepth 100000 in
set_option maxHeartbeats 4000000 in
theorem below_any (a b : D.Tg) (w : World) : Calls Tryd.prog 25 #[.agg (nc a), .agg (nc b)] w fun e w' => e = .returned (.bool (D.below a b)) ∧ Below w.heap.size w w' := by
  have cM := Lib.hid (fun W hr => match_any a (some ⟨w.heap.size + 2, 0, none⟩) 1 1 [b] W hr (Nat.le_refl _) (by decide))
  have hr := nrow_one ((w.alloc (.cells (nc a) 29)).alloc (.cells (nc b) 29)) 29 (w.heap.size + 2) b (by simp)
  have b0 : Below w.heap.size w (((w.alloc (.cells (nc a) 29)).alloc (.cells (nc b) 29)).alloc (.cells (nc b) 29)) := (((Below.refl _ _).alloc (Nat.le_refl _) _).alloc (by simp) _).alloc (by simp; omega) _
  go_enter Tryd.func25, Tryd.ntmps25
  go_wp2_with (go_at_call 22; (with_reducible refine (cM.out _ hr).mono ?_); rintro e w1 ⟨rfl, b1⟩; have z1 := b0.trans (b1.mono (by simp; omega)))
  go_ret
  exact ⟨rfl, z1.alloc z1.size _⟩
set_option maxRecDepth 100000 in
set_option maxHeartbeats 4000000 in
theorem common_any (a b : D.Tg) (w : World) : Calls Tryd.prog 24 #[.agg (nc a), .agg (nc b)] w fun e w' => e = .returned (.agg (nc (D.common a b))) ∧ Below w.heap.size w w' := by
  obtain ⟨L, hL⟩ : ∃ L, D.cht b = L := ⟨_, rfl⟩
  have hl4 := D.cht_len b
  rw [hL] at hl4
  obtain ⟨y, hy⟩ : ∃ y, D.common a b = y := ⟨_, rfl⟩
  have cC := chain_any b
  rw [hL] at cC
  have cM := fun (A : Option Addr) (c : Nat) (W : World) hr hc => match_any a A L.length c L W hr hc (by omega)
  have hy' : (D.find (D.cht a) L).getD D.zero = y := by rw [← hy, ← hL]; rfl
  rw [hy'] at cM
  obtain ⟨bb, hbb⟩ : ∃ bb, (D.find (D.cht a) L).isSome = bb := ⟨_, rfl⟩
  rw [hbb] at cM
  rw [hy]
  have CC := Lib.hid cC
  have CM := Lib.hid cM
  clear cC cM hy hy' hbb hL hl4
  obtain ⟨w0, hw0⟩ : ∃ w0, ((w.alloc (.cells (nc a) 29)).alloc (.cells (nc b) 29)).alloc (.cells #[.int .u8 0, .int .u8 0, .int .u8 0, .int .u8 0, .int .u8 0, .int .u8 0, .int .u8 0, .int .u8 0, .int .u8 0, .int .u8 0] 29) = w0 := ⟨_, rfl⟩
  have f0 : rd w0 ⟨w.heap.size, 0, none⟩ = some a := by
    rw [← hw0]; exact rd_on (rd_new w _ 29 a rfl) (((Below.refl _ _).alloc (Nat.le_refl _) _).alloc (by simp) _)
  have f1 : rd w0 ⟨w.heap.size + 1, 0, none⟩ = some b := by
    rw [← hw0]; exact rd_on (rd_new (w.alloc (.cells (nc a) 29)) _ 29 b (by simp)) ((Below.refl _ _).alloc (Nat.le_refl _) _)
  have t2 : tn w0 (w.heap.size + 2) = true := by
    rw [← hw0, tn_new _ _ _ _ (by simp)]; rfl
  have b0 : Below w.heap.size w w0 := by rw [← hw0]; exact (((Below.refl _ _).alloc (Nat.le_refl _) _).alloc (by simp) _).alloc (by simp; omega) _
  have hz0 : w.heap.size + 3 ≤ w0.heap.size := by rw [← hw0]; simp
  go_enter Tryd.func24, Tryd.ntmps24
  go_wp2_with fail
  try rw [hw0]
  clear hw0
  refine wp_region_noPanic ?_
  refine wp_region_held_drew (S := fun W => Below w0.heap.size w0 W) (by kernel_rfl) (Below.refl _ _).drew (fun _ => ?_)
  refine takeS 0 (some 8) ?va0 (by kernel_rfl) (by kernel_rfl) (by kernel_rfl) (by kernel_rfl) (fun _ _ _ h => h) (by rfl) ?hya0 (Below.refl _ _).drew ?resta0
  case hya0 => (intro o ho W hW; simp only [List.getElem?_toArray, List.getElem?_cons_succ, List.getElem?_cons_zero, Option.some.injEq] at ho; subst ho; (try dsimp only at hW); have g := rd_on f0 hW; go_simp; try rfl)
  try simp only [Act.put, List.setIfInBounds_toArray, List.set_cons_zero, List.set_cons_succ]
  refine takeS 1 (some 9) ?va1 (by kernel_rfl) (by kernel_rfl) (by kernel_rfl) (by kernel_rfl) (fun _ _ _ h => h) (by rfl) ?hya1 (Below.refl _ _).drew ?resta1
  case hya1 => (intro o ho W hW; simp only [List.getElem?_toArray, List.getElem?_cons_succ, List.getElem?_cons_zero, Option.some.injEq] at ho; subst ho; (try dsimp only at hW); have g := rd_on f1 hW; go_simp; try rfl)
  try simp only [Act.put, List.setIfInBounds_toArray, List.set_cons_zero, List.set_cons_succ]
  refine forkS 2 7 (by kernel_rfl) (by rfl) (by rfl) (fun o ho K hK => ?_) (fun o ho K hK => ?_)
  · simp only [List.getElem?_toArray, List.getElem?_cons_succ, List.getElem?_cons_zero, Option.some.injEq] at ho; subst ho
    go_simp
    (go_at_call 19; (with_reducible refine (CC.out _).mono ?_); rintro e w1 ⟨A1, c1, rfl, ho1, hb1⟩)
    have s1 : Below w0.heap.size w0 w1 := below_on (Below.refl _ _).drew (Nat.le_refl _) hb1
    refine hK.out _ _ s1 (fun _ => ?_)
    clear hK K
    try simp only [Act.put, List.setIfInBounds_toArray, List.set_cons_zero, List.set_cons_succ]
    refine forkS 3 7 (by kernel_rfl) (by rfl) (by rfl) (fun o ho K hK => ?_) (fun o ho K hK => ?_)
    · simp only [List.getElem?_toArray, List.getElem?_cons_succ, List.getElem?_cons_zero, Option.some.injEq] at ho; subst ho
      go_simp
      (go_at_call 22; (with_reducible refine (CM.out _ _ _ ho1.to_row ho1.cap.1).mono ?_); rintro e w3 ⟨rfl, hb3⟩)
      have s3 : Below w0.heap.size w0 w3 := below_on s1 s1.size hb3
      refine hK.out _ _ s3 (fun _ => ?_)
      clear hK K
      try simp only [Act.put, List.setIfInBounds_toArray, List.set_cons_zero, List.set_cons_succ]
      refine takeS 4 (some 7) ?vb4 (by kernel_rfl) (by kernel_rfl) (by kernel_rfl) (by kernel_rfl) (fun _ _ _ h => h) (by rfl) ?hyb4 s3 ?restb4
      case hyb4 => (intro o ho W hW; simp only [List.getElem?_toArray, List.getElem?_cons_succ, List.getElem?_cons_zero, Option.some.injEq] at ho; subst ho; (try dsimp only at hW); skip; go_simp; try rfl)
      try simp only [Act.put, List.setIfInBounds_toArray, List.set_cons_zero, List.set_cons_succ]
      refine takeS 5 (some 12) ?vb5 (by kernel_rfl) (by kernel_rfl) (by kernel_rfl) (by kernel_rfl) (fun _ _ _ h => h) (by rfl) ?hyb5 s3 ?restb5
      case hyb5 => (intro o ho W hW; simp only [List.getElem?_toArray, List.getElem?_cons_succ, List.getElem?_cons_zero, Option.some.injEq] at ho; subst ho; (try dsimp only at hW); skip; go_simp; try rfl)
      try simp only [Act.put, List.setIfInBounds_toArray, List.set_cons_zero, List.set_cons_succ]
      refine takeS 6 (some 13) ?vb6 (by kernel_rfl) (by kernel_rfl) (by kernel_rfl) (by kernel_rfl) (fun _ _ _ h => h) (by rfl) ?hyb6 s3 ?restb6
      case hyb6 => (intro o ho W hW; simp only [List.getElem?_toArray, List.getElem?_cons_succ, List.getElem?_cons_zero, Option.some.injEq] at ho; subst ho; (try dsimp only at hW); skip; go_simp; try rfl)
      try simp only [Act.put, List.setIfInBounds_toArray, List.set_cons_zero, List.set_cons_succ]
      refine nextS 7 (by kernel_rfl) (by rfl) (fun o ho K hK => ?_)
      simp only [List.getElem?_toArray, List.getElem?_cons_succ, List.getElem?_cons_zero, Option.some.injEq] at ho; subst ho
      go_simp
      refine hK.out _ _ (s3.alloc s3.size _) (fun _ => ?_)
      clear hK K
      try simp only [Act.put, List.setIfInBounds_toArray, List.set_cons_zero, List.set_cons_succ]
      refine nextS 8 (by kernel_rfl) (by rfl) (fun o ho K hK => ?_)
      simp only [List.getElem?_toArray, List.getElem?_cons_succ, List.getElem?_cons_zero, Option.some.injEq] at ho; subst ho
      go_simp
      refine hK.out _ _ (s3.alloc s3.size _) (fun _ => ?_)
      clear hK K
      try simp only [Act.put, List.setIfInBounds_toArray, List.set_cons_zero, List.set_cons_succ]
      refine takeS 9 (some 6) ?vb9 (by kernel_rfl) (by kernel_rfl) (by kernel_rfl) (by kernel_rfl) (fun _ _ _ h => h) (by rfl) ?hyb9 (s3.alloc s3.size _) ?restb9
      case hyb9 => (intro o ho W hW; simp only [List.getElem?_toArray, List.getElem?_cons_succ, List.getElem?_cons_zero, Option.some.injEq] at ho; subst ho; (try dsimp only at hW); skip; go_simp; try rfl)
      try simp only [Act.put, List.setIfInBounds_toArray, List.set_cons_zero, List.set_cons_succ]
      refine wpAnyH_done (by kernel_rfl) ?_ _
      refine NoPanic.normal ?_
      obtain ⟨WF, hWF⟩ : ∃ WF, w3.alloc (.cells (nc y) 29) = WF := ⟨_, rfl⟩
      have sF : Below w0.heap.size w0 WF := by rw [← hWF]; exact s3.alloc s3.size _
      have fF : rd WF ⟨w3.heap.size, 0, none⟩ = some y := by rw [← hWF]; exact rd_new _ _ _ _ rfl
      rw [hWF]
      clear hWF
      have tF := tn_on t2 sF
      have bF := below_on b0 (by omega) sF
      have hset := rd_set WF (w.heap.size + 2) y tF
      have b6 := below_setRow bF (show w.heap.size ≤ w.heap.size + 2 by omega) (nc y)
      clear f0 f1 t2 b0
      go_wp2
      exact bodyPost_ret (v := .agg (nc y)) (by rw [results_cell1 rfl]; simp [asAddr, Result.andThen, lv_of_n hset]) rfl ⟨rfl, b6⟩
    · simp only [List.getElem?_toArray, List.getElem?_cons_succ, List.getElem?_cons_zero, Option.some.injEq] at ho; subst ho
      go_simp
      have s2 : Below w0.heap.size w0 (w1.alloc (.cells #[.int .u8 0, .int .u8 0, .int .u8 0, .int .u8 0, .int .u8 0, .int .u8 0, .int .u8 0, .int .u8 0, .int .u8 0, .int .u8 0] 29)) := s1.alloc s1.size _
      have t7 : tn (w1.alloc (.cells #[.int .u8 0, .int .u8 0, .int .u8 0, .int .u8 0, .int .u8 0, .int .u8 0, .int .u8 0, .int .u8 0, .int .u8 0, .int .u8 0] 29)) w1.heap.size = true := by rw [tn_new _ _ _ _ rfl]; rfl
      refine hK.out _ _ s2 (fun _ => ?_)
      clear hK K
      try simp only [Act.put, List.setIfInBounds_toArray, List.set_cons_zero, List.set_cons_succ]
      refine nextS 3 (by kernel_rfl) (by rfl) (fun o ho K hK => ?_)
      simp only [List.getElem?_toArray, List.getElem?_cons_succ, List.getElem?_cons_zero, Option.some.injEq] at ho; subst ho
      go_simp
      (go_at_call 22; (with_reducible refine (CM.out _ _ _ (ho1.to_row.alloc _) ho1.cap.1).mono ?_); rintro e w3 ⟨rfl, hb3⟩)
      have s3 : Below w0.heap.size w0 w3 := below_on s2 s2.size hb3
      have t8 := tn_on t7 hb3
      refine hK.out _ _ s3 (fun _ => ?_)
      clear hK K
      try simp only [Act.put, List.setIfInBounds_toArray, List.set_cons_zero, List.set_cons_succ]
      refine takeS 4 (some 7) ?vc4 (by kernel_rfl) (by kernel_rfl) (by kernel_rfl) (by kernel_rfl) (fun _ _ _ h => h) (by rfl) ?hyc4 s3 ?restc4
      case hyc4 => (intro o ho W hW; simp only [List.getElem?_toArray, List.getElem?_cons_succ, List.getElem?_cons_zero, Option.some.injEq] at ho; subst ho; (try dsimp only at hW); skip; go_simp; try rfl)
      try simp only [Act.put, List.setIfInBounds_toArray, List.set_cons_zero, List.set_cons_succ]
      refine takeS 5 (some 12) ?vc5 (by kernel_rfl) (by kernel_rfl) (by kernel_rfl) (by kernel_rfl) (fun _ _ _ h => h) (by rfl) ?hyc5 s3 ?restc5
      case hyc5 => (intro o ho W hW; simp only [List.getElem?_toArray, List.getElem?_cons_succ, List.getElem?_cons_zero, Option.some.injEq] at ho; subst ho; (try dsimp only at hW); skip; go_simp; try rfl)
      try simp only [Act.put, List.setIfInBounds_toArray, List.set_cons_zero, List.set_cons_succ]
      refine takeS 6 (some 13) ?vc6 (by kernel_rfl) (by kernel_rfl) (by kernel_rfl) (by kernel_rfl) (fun _ _ _ h => h) (by rfl) ?hyc6 s3 ?restc6
      case hyc6 => (intro o ho W hW; simp only [List.getElem?_toArray, List.getElem?_cons_succ, List.getElem?_cons_zero, Option.some.injEq] at ho; subst ho; (try dsimp only at hW); skip; go_simp; try rfl)
      try simp only [Act.put, List.setIfInBounds_toArray, List.set_cons_zero, List.set_cons_succ]
      refine nextS 8 (by kernel_rfl) (by rfl) (fun o ho K hK => ?_)
      simp only [List.getElem?_toArray, List.getElem?_cons_succ, List.getElem?_cons_zero, Option.some.injEq] at ho; subst ho
      go_simp
      have s4 : Below w0.heap.size w0 (w3.setRow w1.heap.size (nc y)) := below_setRow s3 s1.size _
      refine hK.out _ _ s4 (fun _ => ?_)
      clear hK K
      try simp only [Act.put, List.setIfInBounds_toArray, List.set_cons_zero, List.set_cons_succ]
      refine takeS 9 (some 6) ?vc9 (by kernel_rfl) (by kernel_rfl) (by kernel_rfl) (by kernel_rfl) (fun _ _ _ h => h) (by rfl) ?hyc9 s4 ?restc9
      case hyc9 => (intro o ho W hW; simp only [List.getElem?_toArray, List.getElem?_cons_succ, List.getElem?_cons_zero, Option.some.injEq] at ho; subst ho; (try dsimp only at hW); skip; go_simp; try rfl)
      try simp only [Act.put, List.setIfInBounds_toArray, List.set_cons_zero, List.set_cons_succ]
      refine wpAnyH_done (by kernel_rfl) ?_ _
      refine NoPanic.normal ?_
      obtain ⟨WF, hWF⟩ : ∃ WF, w3.setRow w1.heap.size (nc y) = WF := ⟨_, rfl⟩
      have sF : Below w0.heap.size w0 WF := by rw [← hWF]; exact s4
      have fF : rd WF ⟨w1.heap.size, 0, none⟩ = some y := by rw [← hWF]; exact rd_set _ _ _ t8
      rw [hWF]
      clear hWF
      have tF := tn_on t2 sF
      have bF := below_on b0 (by omega) sF
      have hset := rd_set WF (w.heap.size + 2) y tF
      have b6 := below_setRow bF (show w.heap.size ≤ w.heap.size + 2 by omega) (nc y)
      clear f0 f1 t2 b0
      go_wp2
      exact bodyPost_ret (v := .agg (nc y)) (by rw [results_cell1 rfl]; simp [asAddr, Result.andThen, lv_of_n hset]) rfl ⟨rfl, b6⟩
  · simp only [List.getElem?_toArray, List.getElem?_cons_succ, List.getElem?_cons_zero, Option.some.injEq] at ho; subst ho
    go_simp
    have s1 : Below w0.heap.size w0 (w0.drew.alloc (.cells #[.int .u8 0, .int .u8 0, .int .u8 0, .int .u8 0, .int .u8 0, .int .u8 0, .int .u8 0, .int .u8 0, .int .u8 0, .int .u8 0] 29)) := (Below.refl w0.heap.size w0).drew.alloc (Nat.le_refl _) _
    have t7 : tn (w0.drew.alloc (.cells #[.int .u8 0, .int .u8 0, .int .u8 0, .int .u8 0, .int .u8 0, .int .u8 0, .int .u8 0, .int .u8 0, .int .u8 0, .int .u8 0] 29)) w0.heap.size = true := tn_of (Blk.new w0.drew _ _) rfl
    refine hK.out _ _ s1 (fun _ => ?_)
    clear hK K
    try simp only [Act.put, List.setIfInBounds_toArray, List.set_cons_zero, List.set_cons_succ]
    refine nextS 2 (by kernel_rfl) (by rfl) (fun o ho K hK => ?_)
    simp only [List.getElem?_toArray, List.getElem?_cons_succ, List.getElem?_cons_zero, Option.some.injEq] at ho; subst ho
    go_simp
    (go_at_call 19; (with_reducible refine (CC.out _).mono ?_); rintro e w1 ⟨A1, c1, rfl, ho1, hb1⟩)
    have s2 : Below w0.heap.size w0 w1 := below_on s1 s1.size hb1
    have t8 := tn_on t7 hb1
    refine hK.out _ _ s2 (fun _ => ?_)
    clear hK K
    try simp only [Act.put, List.setIfInBounds_toArray, List.set_cons_zero, List.set_cons_succ]
    refine nextS 3 (by kernel_rfl) (by rfl) (fun o ho K hK => ?_)
    simp only [List.getElem?_toArray, List.getElem?_cons_succ, List.getElem?_cons_zero, Option.some.injEq] at ho; subst ho
    go_simp
    (go_at_call 22; (with_reducible refine (CM.out _ _ _ ho1.to_row ho1.cap.1).mono ?_); rintro e w3 ⟨rfl, hb3⟩)
    have s3 : Below w0.heap.size w0 w3 := below_on s2 s2.size hb3
    have t9 := tn_on t8 hb3
    refine hK.out _ _ s3 (fun _ => ?_)
    clear hK K
    try simp only [Act.put, List.setIfInBounds_toArray, List.set_cons_zero, List.set_cons_succ]
    refine takeS 4 (some 7) ?vd4 (by kernel_rfl) (by kernel_rfl) (by kernel_rfl) (by kernel_rfl) (fun _ _ _ h => h) (by rfl) ?hyd4 s3 ?restd4
    case hyd4 => (intro o ho W hW; simp only [List.getElem?_toArray, List.getElem?_cons_succ, List.getElem?_cons_zero, Option.some.injEq] at ho; subst ho; (try dsimp only at hW); skip; go_simp; try rfl)
    try simp only [Act.put, List.setIfInBounds_toArray, List.set_cons_zero, List.set_cons_succ]
    refine takeS 5 (some 12) ?vd5 (by kernel_rfl) (by kernel_rfl) (by kernel_rfl) (by kernel_rfl) (fun _ _ _ h => h) (by rfl) ?hyd5 s3 ?restd5
    case hyd5 => (intro o ho W hW; simp only [List.getElem?_toArray, List.getElem?_cons_succ, List.getElem?_cons_zero, Option.some.injEq] at ho; subst ho; (try dsimp only at hW); skip; go_simp; try rfl)
    try simp only [Act.put, List.setIfInBounds_toArray, List.set_cons_zero, List.set_cons_succ]
    refine takeS 6 (some 13) ?vd6 (by kernel_rfl) (by kernel_rfl) (by kernel_rfl) (by kernel_rfl) (fun _ _ _ h => h) (by rfl) ?hyd6 s3 ?restd6
    case hyd6 => (intro o ho W hW; simp only [List.getElem?_toArray, List.getElem?_cons_succ, List.getElem?_cons_zero, Option.some.injEq] at ho; subst ho; (try dsimp only at hW); skip; go_simp; try rfl)
    try simp only [Act.put, List.setIfInBounds_toArray, List.set_cons_zero, List.set_cons_succ]
    refine nextS 8 (by kernel_rfl) (by rfl) (fun o ho K hK => ?_)
    simp only [List.getElem?_toArray, List.getElem?_cons_succ, List.getElem?_cons_zero, Option.some.injEq] at ho; subst ho
    go_simp
    have s4 : Below w0.heap.size w0 (w3.setRow w0.heap.size (nc y)) := below_setRow s3 (Nat.le_refl _) _
    refine hK.out _ _ s4 (fun _ => ?_)
    clear hK K
    try simp only [Act.put, List.setIfInBounds_toArray, List.set_cons_zero, List.set_cons_succ]
    refine takeS 9 (some 6) ?vd9 (by kernel_rfl) (by kernel_rfl) (by kernel_rfl) (by kernel_rfl) (fun _ _ _ h => h) (by rfl) ?hyd9 s4 ?restd9
    case hyd9 => (intro o ho W hW; simp only [List.getElem?_toArray, List.getElem?_cons_succ, List.getElem?_cons_zero, Option.some.injEq] at ho; subst ho; (try dsimp only at hW); skip; go_simp; try rfl)
    try simp only [Act.put, List.setIfInBounds_toArray, List.set_cons_zero, List.set_cons_succ]
    refine wpAnyH_done (by kernel_rfl) ?_ _
    refine NoPanic.normal ?_
    obtain ⟨WF, hWF⟩ : ∃ WF, w3.setRow w0.heap.size (nc y) = WF := ⟨_, rfl⟩
    have sF : Below w0.heap.size w0 WF := by rw [← hWF]; exact s4
    have fF : rd WF ⟨w0.heap.size, 0, none⟩ = some y := by rw [← hWF]; exact rd_set _ _ _ t9
    rw [hWF]
    clear hWF
    have tF := tn_on t2 sF
    have bF := below_on b0 (by omega) sF
    have hset := rd_set WF (w.heap.size + 2) y tF
    have b6 := below_setRow bF (show w.heap.size ≤ w.heap.size + 2 by omega) (nc y)
    clear f0 f1 t2 b0
    go_wp2
    exact bodyPost_ret (v := .agg (nc y)) (by rw [results_cell1 rfl]; simp [asAddr, Result.andThen, lv_of_n hset]) rfl ⟨rfl, b6⟩
end Go.Proofs.YtgbnaammphilhaaDoor
