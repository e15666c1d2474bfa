/-
  The program's Less.
-/
import Derived.Test.YtgbnaammphilhaaDoorCmq
import Derived.Test.YtgbnaammphilhaaDoorKno
set_option linter.unusedVariables false
set_option linter.unusedSimpArgs false
namespace Go.Proofs.YtgbnaammphilhaaDoor
open Go.RowKit
attribute [local go_sem ↓] Go.wp_at_zero Go.wp_at_succ ld_a ld_n st_a st_n eq_a eq_n ne_a ne_n bsl_n lv_a lv_n lp_3 lp_4
attribute [local go_sem] run_ld_a run_ld_n run_sw_a run_sw_n run_eq_a run_eq_n run_ne_a run_ne_n run_bsl1_n run_lv_a run_lv_n st_z ne_z eq_z rd_new rd_old rd_drew rd_drewN rd_set tn_new tn_old tn_drew tn_drewN run_lp_3 run_lp_4

section
variable {P : Program} {ops : Array Oper} {Q : Exit → Act → World → Prop} {md : Region.Mode} {S : World → Prop}
theorem fork3 (i j k : Nat) {fuel : Nat} {listed : Array Bool} {a : Act} {w : World} (hr : Region.ready md ops listed = [i, j, k])
    (hwi : (ops[i]?).map (fun o => Region.wanted o (yielded ops a.tmps)) = some true) (hwj : (ops[j]?).map (fun o => Region.wanted o (yielded ops a.tmps)) = some true) (hwk : (ops[k]?).map (fun o => Region.wanted o (yielded ops a.tmps)) = some true)
    (hi : ∀ o, ops[i]? = some o → ∀ K : Act → World → Prop, Shut (∀ a w, S w → (S w → wpAnyH P md ops Q S fuel (listed.setIfInBounds i true) a w) → K a w) → Oper.wp P o a w K Q)
    (hj : ∀ o, ops[j]? = some o → ∀ K : Act → World → Prop, Shut (∀ a w, S w → (S w → wpAnyH P md ops Q S fuel (listed.setIfInBounds j true) a w) → K a w) → Oper.wp P o a w K Q)
    (hk : ∀ o, ops[k]? = some o → ∀ K : Act → World → Prop, Shut (∀ a w, S w → (S w → wpAnyH P md ops Q S fuel (listed.setIfInBounds k true) a w) → K a w) → Oper.wp P o a w K Q) : wpAnyH P md ops Q S (fuel + 1) listed a w := by
  cases ho : ops[i]? with
  | none => rw [ho] at hwi; cases hwi
  | some o =>
    cases hp : ops[j]? with
    | none => rw [hp] at hwj; cases hwj
    | some p =>
      cases hq : ops[k]? with
      | none => rw [hq] at hwk; cases hwk
      | some q =>
        rw [ho] at hwi
        rw [hp] at hwj
        rw [hq] at hwk
        simp only [Option.map_some, Option.some.injEq] at hwi hwj hwk
        refine wpAnyH_ready hr (by simp) (AllReadyH.cons ho (fun K hK => ?_) (AllReadyH.cons hp (fun K hK => ?_) (AllReadyH.cons hq (fun K hK => ?_) AllReadyH.nil)))
        · rw [if_pos hwi]; exact hi o ho K hK
        · rw [if_pos hwj]; exact hj p hp K hK
        · rw [if_pos hwk]; exact hk q hq K hK
end
theorem row_rd {w : World} {g : Nat} {x : D.Tg} (h : rd w ⟨g, 0, none⟩ = some x) : Row w (some ⟨g, 0, none⟩) 10 (bys x.l) :=
  ⟨by rw [bys_len, x.len], fun _ => ⟨_, rfl, rd_lt h, at_of h⟩⟩
set_option maxRecDepth 100000 in
set_option maxHeartbeats 8000000 in
theorem less_any (a b : D.Tg) (w : World) : Calls Tryd.prog 26 #[.agg (nc a), .agg (nc b)] w fun e w' => e = .returned (.bool (decide (D.cmp a.l b.l < 0))) ∧ Below w.heap.size w w' := by
  have CA := Lib.hid (bytes_any a)
  have CB := Lib.hid (bytes_any b)
  obtain ⟨w0, hw0⟩ : ∃ w0, (w.alloc (.cells (nc a) 29)).alloc (.cells (nc b) 29) = w0 := ⟨_, rfl⟩
  have f0 : rd w0 ⟨w.heap.size, 0, none⟩ = some a := by rw [← hw0]; exact rd_on (rd_new w _ 29 a rfl) (below_alloc_ _ _)
  have f1 : rd w0 ⟨w.heap.size + 1, 0, none⟩ = some b := by rw [← hw0]; exact rd_new (w.alloc (.cells (nc a) 29)) _ 29 b (by simp)
  have b0 : Below w.heap.size w w0 := by rw [← hw0]; exact ((Below.refl _ _).alloc (Nat.le_refl _) _).alloc (by simp) _
  go_enter Tryd.func26, Tryd.ntmps26
  go_wp2_with fail
  try rw [hw0]
  clear hw0
  refine wp_region_noPanic ?_
  refine wp_region_held_drew (S := fun W => Below w0.heap.size w0 W) (by kernel_rfl) (Below.refl _ _).drew (fun _ => ?_)
  obtain ⟨wd, hwd⟩ : ∃ wd, w0.drew = wd := ⟨_, rfl⟩
  have sd : Below w0.heap.size w0 wd := by rw [← hwd]; exact (Below.refl _ _).drew
  rw [hwd]
  clear hwd
  refine takeS 0 (some 7) ?va0 (by kernel_rfl) (by kernel_rfl) (by kernel_rfl) (by kernel_rfl) (fun _ _ _ h => h) (by rfl) ?hya0 sd ?resta0
  case hya0 => (intro o ho W hW; simp only [List.getElem?_toArray, List.getElem?_cons_succ, List.getElem?_cons_zero, Option.some.injEq] at ho; subst ho; (try dsimp only at hW); have g := rd_on f0 hW; go_simp; try rfl)
  try simp only [Act.put, List.setIfInBounds_toArray, List.set_cons_zero, List.set_cons_succ]
  refine takeS 2 (some 9) ?va2 (by kernel_rfl) (by kernel_rfl) (by kernel_rfl) (by kernel_rfl) (fun _ _ _ h => h) (by rfl) ?hya2 sd ?resta2
  case hya2 => (intro o ho W hW; simp only [List.getElem?_toArray, List.getElem?_cons_succ, List.getElem?_cons_zero, Option.some.injEq] at ho; subst ho; (try dsimp only at hW); have g := rd_on f1 hW; go_simp; try rfl)
  try simp only [Act.put, List.setIfInBounds_toArray, List.set_cons_zero, List.set_cons_succ]
  refine fork3 1 4 5 (by kernel_rfl) (by rfl) (by rfl) (by rfl) (fun o ho K hK => ?_) (fun o ho K hK => ?_) (fun o ho K hK => ?_)
  · simp only [List.getElem?_toArray, List.getElem?_cons_succ, List.getElem?_cons_zero, Option.some.injEq] at ho; subst ho
    go_simp
    (go_at_call 16; (with_reducible refine (CA.out _).mono ?_); rintro e v1 ⟨rfl, b1⟩)
    have s1 : Below w0.heap.size w0 v1 := below_on sd sd.size b1
    refine hK.out _ _ s1 (fun _ => ?_)
    clear hK K
    try simp only [Act.put, List.setIfInBounds_toArray, List.set_cons_zero, List.set_cons_succ]
    refine fork3 3 4 5 (by kernel_rfl) (by rfl) (by rfl) (by rfl) (fun o ho K hK => ?_) (fun o ho K hK => ?_) (fun o ho K hK => ?_)
    · simp only [List.getElem?_toArray, List.getElem?_cons_succ, List.getElem?_cons_zero, Option.some.injEq] at ho; subst ho
      go_simp
      (go_at_call 16; (with_reducible refine (CB.out _).mono ?_); rintro e v2 ⟨rfl, b2⟩)
      have s2 : Below w0.heap.size w0 v2 := below_on s1 s1.size b2
      refine hK.out _ _ s2 (fun _ => ?_)
      clear hK K
      try simp only [Act.put, List.setIfInBounds_toArray, List.set_cons_zero, List.set_cons_succ]
      refine forkS 4 5 (by kernel_rfl) (by rfl) (by rfl) (fun o ho K hK => ?_) (fun o ho K hK => ?_)
      · simp only [List.getElem?_toArray, List.getElem?_cons_succ, List.getElem?_cons_zero, Option.some.injEq] at ho; subst ho
        go_simp
        have s3 : Below w0.heap.size w0 (v2.alloc (.cells #[.int .u8 0, .int .u8 0, .int .u8 0, .int .u8 0, .int .u8 0, .int .u8 0, .int .u8 0, .int .u8 0, .int .u8 0, .int .u8 0] 39)) := s2.alloc s2.size _
        have q3 : tn (v2.alloc (.cells #[.int .u8 0, .int .u8 0, .int .u8 0, .int .u8 0, .int .u8 0, .int .u8 0, .int .u8 0, .int .u8 0, .int .u8 0, .int .u8 0] 39)) v2.heap.size = true := tn_of (Blk.new v2 _ _) rfl
        refine hK.out _ _ s3 (fun _ => ?_)
        clear hK K
        try simp only [Act.put, List.setIfInBounds_toArray, List.set_cons_zero, List.set_cons_succ]
        obtain ⟨v3, hv3⟩ : ∃ V, v2.alloc (.cells #[.int .u8 0, .int .u8 0, .int .u8 0, .int .u8 0, .int .u8 0, .int .u8 0, .int .u8 0, .int .u8 0, .int .u8 0, .int .u8 0] 39) = V := ⟨_, rfl⟩
        rw [hv3] at s3 q3
        rw [hv3]
        clear hv3
        refine nextS 5 (by kernel_rfl) (by rfl) (fun o ho K hK => ?_)
        simp only [List.getElem?_toArray, List.getElem?_cons_succ, List.getElem?_cons_zero, Option.some.injEq] at ho; subst ho
        go_simp
        have s4 : Below w0.heap.size w0 (v3.alloc (.cells #[.int .u8 0, .int .u8 0, .int .u8 0, .int .u8 0, .int .u8 0, .int .u8 0, .int .u8 0, .int .u8 0, .int .u8 0, .int .u8 0] 39)) := s3.alloc s3.size _
        have q4 : tn (v3.alloc (.cells #[.int .u8 0, .int .u8 0, .int .u8 0, .int .u8 0, .int .u8 0, .int .u8 0, .int .u8 0, .int .u8 0, .int .u8 0, .int .u8 0] 39)) v3.heap.size = true := tn_of (Blk.new v3 _ _) rfl
        have t4_4 := tn_on q3 (below_alloc_ v3 (.cells #[.int .u8 0, .int .u8 0, .int .u8 0, .int .u8 0, .int .u8 0, .int .u8 0, .int .u8 0, .int .u8 0, .int .u8 0, .int .u8 0] 39))
        have ne : v2.heap.size ≠ v3.heap.size := Nat.ne_of_lt (tn_lt q3)
        refine hK.out _ _ s4 (fun _ => ?_)
        clear hK K
        try simp only [Act.put, List.setIfInBounds_toArray, List.set_cons_zero, List.set_cons_succ]
        obtain ⟨v4, hv4⟩ : ∃ V, v3.alloc (.cells #[.int .u8 0, .int .u8 0, .int .u8 0, .int .u8 0, .int .u8 0, .int .u8 0, .int .u8 0, .int .u8 0, .int .u8 0, .int .u8 0] 39) = V := ⟨_, rfl⟩
        rw [hv4] at s4 q4 t4_4
        rw [hv4]
        clear hv4
        have t6 := tn_setRow v4 (v3.heap.size) (v2.heap.size) a q4
        refine nextS 6 (by kernel_rfl) (by rfl) (fun o ho K hK => ?_)
        simp only [List.getElem?_toArray, List.getElem?_cons_succ, List.getElem?_cons_zero, Option.some.injEq] at ho; subst ho
        go_simp
        have s6 : Below w0.heap.size w0 (v4.setRow (v2.heap.size) (nc a)) := below_setRow s4 s2.size _
        refine hK.out _ _ s6 (fun _ => ?_)
        clear hK K
        try simp only [Act.put, List.setIfInBounds_toArray, List.set_cons_zero, List.set_cons_succ]
        refine nextS 7 (by kernel_rfl) (by rfl) (fun o ho K hK => ?_)
        simp only [List.getElem?_toArray, List.getElem?_cons_succ, List.getElem?_cons_zero, Option.some.injEq] at ho; subst ho
        go_simp
        have s7 : Below w0.heap.size w0 ((v4.setRow (v2.heap.size) (nc a)).setRow (v3.heap.size) (nc b)) := below_setRow s6 s3.size _
        refine hK.out _ _ s7 (fun _ => ?_)
        clear hK K
        try simp only [Act.put, List.setIfInBounds_toArray, List.set_cons_zero, List.set_cons_succ]
        refine wpAnyH_done (by kernel_rfl) ?_ _
        refine NoPanic.normal ?_
        have RB := rd_set (v4.setRow (v2.heap.size) (nc a)) (v3.heap.size) b t6
        have RA : rd ((v4.setRow (v2.heap.size) (nc a)).setRow (v3.heap.size) (nc b)) ⟨v2.heap.size, 0, none⟩ = some a := by rw [rd_far _ _ _ _ ne]; exact rd_set _ _ _ t4_4
        obtain ⟨WF, hWF⟩ : ∃ WF, (v4.setRow (v2.heap.size) (nc a)).setRow (v3.heap.size) (nc b) = WF := ⟨_, rfl⟩
        rw [hWF] at s7 RA RB
        rw [hWF]
        clear hWF
        have bF := below_on b0 b0.size s7
        have cq := Lib.hid (fun p => bytes_compare (some ⟨v2.heap.size, 0, none⟩) (some ⟨v3.heap.size, 0, none⟩) 10 10 10 10 a.l b.l (D.cmp a.l b.l) (ext WF p) ((row_rd RA).on (ext_below WF p)) ((row_rd RB).on (ext_below WF p)) ⟨a.lt⟩ ⟨b.lt⟩ ⟨rfl⟩)
        obtain ⟨r, hr⟩ : ∃ r, D.cmp a.l b.l = r := ⟨_, rfl⟩
        rw [hr] at cq
        have HR := Lib.hid hr
        clear hr
        go_wp2_with fail
        refine wp_region_ext (by kernel_rfl) (by kernel_rfl) ?_
        repeat (go_big_quiet_step ((go_at_call 40; exact calls_same (cq.out _))))
        refine wpQuiet_nil ?_
        intro w9 hw9
        have b9 := bF.trans ((ext_to hw9).mono bF.size)
        clear hw9
        go_wp2
        go_ret
        exact ⟨by show Ending.returned (.bool (decide (r < 0))) = _; rw [HR.out], b9⟩
      · simp only [List.getElem?_toArray, List.getElem?_cons_succ, List.getElem?_cons_zero, Option.some.injEq] at ho; subst ho
        go_simp
        have s5 : Below w0.heap.size w0 (v2.alloc (.cells #[.int .u8 0, .int .u8 0, .int .u8 0, .int .u8 0, .int .u8 0, .int .u8 0, .int .u8 0, .int .u8 0, .int .u8 0, .int .u8 0] 39)) := s2.alloc s2.size _
        have q5 : tn (v2.alloc (.cells #[.int .u8 0, .int .u8 0, .int .u8 0, .int .u8 0, .int .u8 0, .int .u8 0, .int .u8 0, .int .u8 0, .int .u8 0, .int .u8 0] 39)) v2.heap.size = true := tn_of (Blk.new v2 _ _) rfl
        refine hK.out _ _ s5 (fun _ => ?_)
        clear hK K
        try simp only [Act.put, List.setIfInBounds_toArray, List.set_cons_zero, List.set_cons_succ]
        obtain ⟨v5, hv5⟩ : ∃ V, v2.alloc (.cells #[.int .u8 0, .int .u8 0, .int .u8 0, .int .u8 0, .int .u8 0, .int .u8 0, .int .u8 0, .int .u8 0, .int .u8 0, .int .u8 0] 39) = V := ⟨_, rfl⟩
        rw [hv5] at s5 q5
        rw [hv5]
        clear hv5
        refine nextS 4 (by kernel_rfl) (by rfl) (fun o ho K hK => ?_)
        simp only [List.getElem?_toArray, List.getElem?_cons_succ, List.getElem?_cons_zero, Option.some.injEq] at ho; subst ho
        go_simp
        have s6 : Below w0.heap.size w0 (v5.alloc (.cells #[.int .u8 0, .int .u8 0, .int .u8 0, .int .u8 0, .int .u8 0, .int .u8 0, .int .u8 0, .int .u8 0, .int .u8 0, .int .u8 0] 39)) := s5.alloc s5.size _
        have q6 : tn (v5.alloc (.cells #[.int .u8 0, .int .u8 0, .int .u8 0, .int .u8 0, .int .u8 0, .int .u8 0, .int .u8 0, .int .u8 0, .int .u8 0, .int .u8 0] 39)) v5.heap.size = true := tn_of (Blk.new v5 _ _) rfl
        have t5_6 := tn_on q5 (below_alloc_ v5 (.cells #[.int .u8 0, .int .u8 0, .int .u8 0, .int .u8 0, .int .u8 0, .int .u8 0, .int .u8 0, .int .u8 0, .int .u8 0, .int .u8 0] 39))
        have ne : v5.heap.size ≠ v2.heap.size := Nat.ne_of_gt (tn_lt q5)
        refine hK.out _ _ s6 (fun _ => ?_)
        clear hK K
        try simp only [Act.put, List.setIfInBounds_toArray, List.set_cons_zero, List.set_cons_succ]
        obtain ⟨v6, hv6⟩ : ∃ V, v5.alloc (.cells #[.int .u8 0, .int .u8 0, .int .u8 0, .int .u8 0, .int .u8 0, .int .u8 0, .int .u8 0, .int .u8 0, .int .u8 0, .int .u8 0] 39) = V := ⟨_, rfl⟩
        rw [hv6] at s6 q6 t5_6
        rw [hv6]
        clear hv6
        have t6 := tn_setRow v6 (v2.heap.size) (v5.heap.size) a t5_6
        refine nextS 6 (by kernel_rfl) (by rfl) (fun o ho K hK => ?_)
        simp only [List.getElem?_toArray, List.getElem?_cons_succ, List.getElem?_cons_zero, Option.some.injEq] at ho; subst ho
        go_simp
        have s6 : Below w0.heap.size w0 (v6.setRow (v5.heap.size) (nc a)) := below_setRow s6 s5.size _
        refine hK.out _ _ s6 (fun _ => ?_)
        clear hK K
        try simp only [Act.put, List.setIfInBounds_toArray, List.set_cons_zero, List.set_cons_succ]
        refine nextS 7 (by kernel_rfl) (by rfl) (fun o ho K hK => ?_)
        simp only [List.getElem?_toArray, List.getElem?_cons_succ, List.getElem?_cons_zero, Option.some.injEq] at ho; subst ho
        go_simp
        have s7 : Below w0.heap.size w0 ((v6.setRow (v5.heap.size) (nc a)).setRow (v2.heap.size) (nc b)) := below_setRow s6 s2.size _
        refine hK.out _ _ s7 (fun _ => ?_)
        clear hK K
        try simp only [Act.put, List.setIfInBounds_toArray, List.set_cons_zero, List.set_cons_succ]
        refine wpAnyH_done (by kernel_rfl) ?_ _
        refine NoPanic.normal ?_
        have RB := rd_set (v6.setRow (v5.heap.size) (nc a)) (v2.heap.size) b t6
        have RA : rd ((v6.setRow (v5.heap.size) (nc a)).setRow (v2.heap.size) (nc b)) ⟨v5.heap.size, 0, none⟩ = some a := by rw [rd_far _ _ _ _ ne]; exact rd_set _ _ _ q6
        obtain ⟨WF, hWF⟩ : ∃ WF, (v6.setRow (v5.heap.size) (nc a)).setRow (v2.heap.size) (nc b) = WF := ⟨_, rfl⟩
        rw [hWF] at s7 RA RB
        rw [hWF]
        clear hWF
        have bF := below_on b0 b0.size s7
        have cq := Lib.hid (fun p => bytes_compare (some ⟨v5.heap.size, 0, none⟩) (some ⟨v2.heap.size, 0, none⟩) 10 10 10 10 a.l b.l (D.cmp a.l b.l) (ext WF p) ((row_rd RA).on (ext_below WF p)) ((row_rd RB).on (ext_below WF p)) ⟨a.lt⟩ ⟨b.lt⟩ ⟨rfl⟩)
        obtain ⟨r, hr⟩ : ∃ r, D.cmp a.l b.l = r := ⟨_, rfl⟩
        rw [hr] at cq
        have HR := Lib.hid hr
        clear hr
        go_wp2_with fail
        refine wp_region_ext (by kernel_rfl) (by kernel_rfl) ?_
        repeat (go_big_quiet_step ((go_at_call 40; exact calls_same (cq.out _))))
        refine wpQuiet_nil ?_
        intro w9 hw9
        have b9 := bF.trans ((ext_to hw9).mono bF.size)
        clear hw9
        go_wp2
        go_ret
        exact ⟨by show Ending.returned (.bool (decide (r < 0))) = _; rw [HR.out], b9⟩
    · simp only [List.getElem?_toArray, List.getElem?_cons_succ, List.getElem?_cons_zero, Option.some.injEq] at ho; subst ho
      go_simp
      have s7 : Below w0.heap.size w0 (v1.alloc (.cells #[.int .u8 0, .int .u8 0, .int .u8 0, .int .u8 0, .int .u8 0, .int .u8 0, .int .u8 0, .int .u8 0, .int .u8 0, .int .u8 0] 39)) := s1.alloc s1.size _
      have q7 : tn (v1.alloc (.cells #[.int .u8 0, .int .u8 0, .int .u8 0, .int .u8 0, .int .u8 0, .int .u8 0, .int .u8 0, .int .u8 0, .int .u8 0, .int .u8 0] 39)) v1.heap.size = true := tn_of (Blk.new v1 _ _) rfl
      refine hK.out _ _ s7 (fun _ => ?_)
      clear hK K
      try simp only [Act.put, List.setIfInBounds_toArray, List.set_cons_zero, List.set_cons_succ]
      obtain ⟨v7, hv7⟩ : ∃ V, v1.alloc (.cells #[.int .u8 0, .int .u8 0, .int .u8 0, .int .u8 0, .int .u8 0, .int .u8 0, .int .u8 0, .int .u8 0, .int .u8 0, .int .u8 0] 39) = V := ⟨_, rfl⟩
      rw [hv7] at s7 q7
      rw [hv7]
      clear hv7
      refine forkS 3 5 (by kernel_rfl) (by rfl) (by rfl) (fun o ho K hK => ?_) (fun o ho K hK => ?_)
      · simp only [List.getElem?_toArray, List.getElem?_cons_succ, List.getElem?_cons_zero, Option.some.injEq] at ho; subst ho
        go_simp
        (go_at_call 16; (with_reducible refine (CB.out _).mono ?_); rintro e v8 ⟨rfl, b8⟩)
        have s8 : Below w0.heap.size w0 v8 := below_on s7 s7.size b8
        have t4_8 := tn_on q7 b8
        refine hK.out _ _ s8 (fun _ => ?_)
        clear hK K
        try simp only [Act.put, List.setIfInBounds_toArray, List.set_cons_zero, List.set_cons_succ]
        refine nextS 5 (by kernel_rfl) (by rfl) (fun o ho K hK => ?_)
        simp only [List.getElem?_toArray, List.getElem?_cons_succ, List.getElem?_cons_zero, Option.some.injEq] at ho; subst ho
        go_simp
        have s9 : Below w0.heap.size w0 (v8.alloc (.cells #[.int .u8 0, .int .u8 0, .int .u8 0, .int .u8 0, .int .u8 0, .int .u8 0, .int .u8 0, .int .u8 0, .int .u8 0, .int .u8 0] 39)) := s8.alloc s8.size _
        have q9 : tn (v8.alloc (.cells #[.int .u8 0, .int .u8 0, .int .u8 0, .int .u8 0, .int .u8 0, .int .u8 0, .int .u8 0, .int .u8 0, .int .u8 0, .int .u8 0] 39)) v8.heap.size = true := tn_of (Blk.new v8 _ _) rfl
        have t4_9 := tn_on t4_8 (below_alloc_ v8 (.cells #[.int .u8 0, .int .u8 0, .int .u8 0, .int .u8 0, .int .u8 0, .int .u8 0, .int .u8 0, .int .u8 0, .int .u8 0, .int .u8 0] 39))
        have ne : v1.heap.size ≠ v8.heap.size := Nat.ne_of_lt (tn_lt t4_8)
        refine hK.out _ _ s9 (fun _ => ?_)
        clear hK K
        try simp only [Act.put, List.setIfInBounds_toArray, List.set_cons_zero, List.set_cons_succ]
        obtain ⟨v9, hv9⟩ : ∃ V, v8.alloc (.cells #[.int .u8 0, .int .u8 0, .int .u8 0, .int .u8 0, .int .u8 0, .int .u8 0, .int .u8 0, .int .u8 0, .int .u8 0, .int .u8 0] 39) = V := ⟨_, rfl⟩
        rw [hv9] at s9 q9 t4_9
        rw [hv9]
        clear hv9
        have t6 := tn_setRow v9 (v8.heap.size) (v1.heap.size) a q9
        refine nextS 6 (by kernel_rfl) (by rfl) (fun o ho K hK => ?_)
        simp only [List.getElem?_toArray, List.getElem?_cons_succ, List.getElem?_cons_zero, Option.some.injEq] at ho; subst ho
        go_simp
        have s6 : Below w0.heap.size w0 (v9.setRow (v1.heap.size) (nc a)) := below_setRow s9 s1.size _
        refine hK.out _ _ s6 (fun _ => ?_)
        clear hK K
        try simp only [Act.put, List.setIfInBounds_toArray, List.set_cons_zero, List.set_cons_succ]
        refine nextS 7 (by kernel_rfl) (by rfl) (fun o ho K hK => ?_)
        simp only [List.getElem?_toArray, List.getElem?_cons_succ, List.getElem?_cons_zero, Option.some.injEq] at ho; subst ho
        go_simp
        have s7 : Below w0.heap.size w0 ((v9.setRow (v1.heap.size) (nc a)).setRow (v8.heap.size) (nc b)) := below_setRow s6 s8.size _
        refine hK.out _ _ s7 (fun _ => ?_)
        clear hK K
        try simp only [Act.put, List.setIfInBounds_toArray, List.set_cons_zero, List.set_cons_succ]
        refine wpAnyH_done (by kernel_rfl) ?_ _
        refine NoPanic.normal ?_
        have RB := rd_set (v9.setRow (v1.heap.size) (nc a)) (v8.heap.size) b t6
        have RA : rd ((v9.setRow (v1.heap.size) (nc a)).setRow (v8.heap.size) (nc b)) ⟨v1.heap.size, 0, none⟩ = some a := by rw [rd_far _ _ _ _ ne]; exact rd_set _ _ _ t4_9
        obtain ⟨WF, hWF⟩ : ∃ WF, (v9.setRow (v1.heap.size) (nc a)).setRow (v8.heap.size) (nc b) = WF := ⟨_, rfl⟩
        rw [hWF] at s7 RA RB
        rw [hWF]
        clear hWF
        have bF := below_on b0 b0.size s7
        have cq := Lib.hid (fun p => bytes_compare (some ⟨v1.heap.size, 0, none⟩) (some ⟨v8.heap.size, 0, none⟩) 10 10 10 10 a.l b.l (D.cmp a.l b.l) (ext WF p) ((row_rd RA).on (ext_below WF p)) ((row_rd RB).on (ext_below WF p)) ⟨a.lt⟩ ⟨b.lt⟩ ⟨rfl⟩)
        obtain ⟨r, hr⟩ : ∃ r, D.cmp a.l b.l = r := ⟨_, rfl⟩
        rw [hr] at cq
        have HR := Lib.hid hr
        clear hr
        go_wp2_with fail
        refine wp_region_ext (by kernel_rfl) (by kernel_rfl) ?_
        repeat (go_big_quiet_step ((go_at_call 40; exact calls_same (cq.out _))))
        refine wpQuiet_nil ?_
        intro w9 hw9
        have b9 := bF.trans ((ext_to hw9).mono bF.size)
        clear hw9
        go_wp2
        go_ret
        exact ⟨by show Ending.returned (.bool (decide (r < 0))) = _; rw [HR.out], b9⟩
      · simp only [List.getElem?_toArray, List.getElem?_cons_succ, List.getElem?_cons_zero, Option.some.injEq] at ho; subst ho
        go_simp
        have s10 : Below w0.heap.size w0 (v7.alloc (.cells #[.int .u8 0, .int .u8 0, .int .u8 0, .int .u8 0, .int .u8 0, .int .u8 0, .int .u8 0, .int .u8 0, .int .u8 0, .int .u8 0] 39)) := s7.alloc s7.size _
        have q10 : tn (v7.alloc (.cells #[.int .u8 0, .int .u8 0, .int .u8 0, .int .u8 0, .int .u8 0, .int .u8 0, .int .u8 0, .int .u8 0, .int .u8 0, .int .u8 0] 39)) v7.heap.size = true := tn_of (Blk.new v7 _ _) rfl
        have t4_10 := tn_on q7 (below_alloc_ v7 (.cells #[.int .u8 0, .int .u8 0, .int .u8 0, .int .u8 0, .int .u8 0, .int .u8 0, .int .u8 0, .int .u8 0, .int .u8 0, .int .u8 0] 39))
        have ne : v1.heap.size ≠ v7.heap.size := Nat.ne_of_lt (tn_lt q7)
        refine hK.out _ _ s10 (fun _ => ?_)
        clear hK K
        try simp only [Act.put, List.setIfInBounds_toArray, List.set_cons_zero, List.set_cons_succ]
        obtain ⟨v10, hv10⟩ : ∃ V, v7.alloc (.cells #[.int .u8 0, .int .u8 0, .int .u8 0, .int .u8 0, .int .u8 0, .int .u8 0, .int .u8 0, .int .u8 0, .int .u8 0, .int .u8 0] 39) = V := ⟨_, rfl⟩
        rw [hv10] at s10 q10 t4_10
        rw [hv10]
        clear hv10
        refine nextS 3 (by kernel_rfl) (by rfl) (fun o ho K hK => ?_)
        simp only [List.getElem?_toArray, List.getElem?_cons_succ, List.getElem?_cons_zero, Option.some.injEq] at ho; subst ho
        go_simp
        (go_at_call 16; (with_reducible refine (CB.out _).mono ?_); rintro e v11 ⟨rfl, b11⟩)
        have s11 : Below w0.heap.size w0 v11 := below_on s10 s10.size b11
        have t4_11 := tn_on t4_10 b11
        have t5_11 := tn_on q10 b11
        refine hK.out _ _ s11 (fun _ => ?_)
        clear hK K
        try simp only [Act.put, List.setIfInBounds_toArray, List.set_cons_zero, List.set_cons_succ]
        have t6 := tn_setRow v11 (v7.heap.size) (v1.heap.size) a t5_11
        refine nextS 6 (by kernel_rfl) (by rfl) (fun o ho K hK => ?_)
        simp only [List.getElem?_toArray, List.getElem?_cons_succ, List.getElem?_cons_zero, Option.some.injEq] at ho; subst ho
        go_simp
        have s6 : Below w0.heap.size w0 (v11.setRow (v1.heap.size) (nc a)) := below_setRow s11 s1.size _
        refine hK.out _ _ s6 (fun _ => ?_)
        clear hK K
        try simp only [Act.put, List.setIfInBounds_toArray, List.set_cons_zero, List.set_cons_succ]
        refine nextS 7 (by kernel_rfl) (by rfl) (fun o ho K hK => ?_)
        simp only [List.getElem?_toArray, List.getElem?_cons_succ, List.getElem?_cons_zero, Option.some.injEq] at ho; subst ho
        go_simp
        have s7 : Below w0.heap.size w0 ((v11.setRow (v1.heap.size) (nc a)).setRow (v7.heap.size) (nc b)) := below_setRow s6 s7.size _
        refine hK.out _ _ s7 (fun _ => ?_)
        clear hK K
        try simp only [Act.put, List.setIfInBounds_toArray, List.set_cons_zero, List.set_cons_succ]
        refine wpAnyH_done (by kernel_rfl) ?_ _
        refine NoPanic.normal ?_
        have RB := rd_set (v11.setRow (v1.heap.size) (nc a)) (v7.heap.size) b t6
        have RA : rd ((v11.setRow (v1.heap.size) (nc a)).setRow (v7.heap.size) (nc b)) ⟨v1.heap.size, 0, none⟩ = some a := by rw [rd_far _ _ _ _ ne]; exact rd_set _ _ _ t4_11
        obtain ⟨WF, hWF⟩ : ∃ WF, (v11.setRow (v1.heap.size) (nc a)).setRow (v7.heap.size) (nc b) = WF := ⟨_, rfl⟩
        rw [hWF] at s7 RA RB
        rw [hWF]
        clear hWF
        have bF := below_on b0 b0.size s7
        have cq := Lib.hid (fun p => bytes_compare (some ⟨v1.heap.size, 0, none⟩) (some ⟨v7.heap.size, 0, none⟩) 10 10 10 10 a.l b.l (D.cmp a.l b.l) (ext WF p) ((row_rd RA).on (ext_below WF p)) ((row_rd RB).on (ext_below WF p)) ⟨a.lt⟩ ⟨b.lt⟩ ⟨rfl⟩)
        obtain ⟨r, hr⟩ : ∃ r, D.cmp a.l b.l = r := ⟨_, rfl⟩
        rw [hr] at cq
        have HR := Lib.hid hr
        clear hr
        go_wp2_with fail
        refine wp_region_ext (by kernel_rfl) (by kernel_rfl) ?_
        repeat (go_big_quiet_step ((go_at_call 40; exact calls_same (cq.out _))))
        refine wpQuiet_nil ?_
        intro w9 hw9
        have b9 := bF.trans ((ext_to hw9).mono bF.size)
        clear hw9
        go_wp2
        go_ret
        exact ⟨by show Ending.returned (.bool (decide (r < 0))) = _; rw [HR.out], b9⟩
    · simp only [List.getElem?_toArray, List.getElem?_cons_succ, List.getElem?_cons_zero, Option.some.injEq] at ho; subst ho
      go_simp
      have s12 : Below w0.heap.size w0 (v1.alloc (.cells #[.int .u8 0, .int .u8 0, .int .u8 0, .int .u8 0, .int .u8 0, .int .u8 0, .int .u8 0, .int .u8 0, .int .u8 0, .int .u8 0] 39)) := s1.alloc s1.size _
      have q12 : tn (v1.alloc (.cells #[.int .u8 0, .int .u8 0, .int .u8 0, .int .u8 0, .int .u8 0, .int .u8 0, .int .u8 0, .int .u8 0, .int .u8 0, .int .u8 0] 39)) v1.heap.size = true := tn_of (Blk.new v1 _ _) rfl
      refine hK.out _ _ s12 (fun _ => ?_)
      clear hK K
      try simp only [Act.put, List.setIfInBounds_toArray, List.set_cons_zero, List.set_cons_succ]
      obtain ⟨v12, hv12⟩ : ∃ V, v1.alloc (.cells #[.int .u8 0, .int .u8 0, .int .u8 0, .int .u8 0, .int .u8 0, .int .u8 0, .int .u8 0, .int .u8 0, .int .u8 0, .int .u8 0] 39) = V := ⟨_, rfl⟩
      rw [hv12] at s12 q12
      rw [hv12]
      clear hv12
      refine forkS 3 4 (by kernel_rfl) (by rfl) (by rfl) (fun o ho K hK => ?_) (fun o ho K hK => ?_)
      · simp only [List.getElem?_toArray, List.getElem?_cons_succ, List.getElem?_cons_zero, Option.some.injEq] at ho; subst ho
        go_simp
        (go_at_call 16; (with_reducible refine (CB.out _).mono ?_); rintro e v13 ⟨rfl, b13⟩)
        have s13 : Below w0.heap.size w0 v13 := below_on s12 s12.size b13
        have t5_13 := tn_on q12 b13
        refine hK.out _ _ s13 (fun _ => ?_)
        clear hK K
        try simp only [Act.put, List.setIfInBounds_toArray, List.set_cons_zero, List.set_cons_succ]
        refine nextS 4 (by kernel_rfl) (by rfl) (fun o ho K hK => ?_)
        simp only [List.getElem?_toArray, List.getElem?_cons_succ, List.getElem?_cons_zero, Option.some.injEq] at ho; subst ho
        go_simp
        have s14 : Below w0.heap.size w0 (v13.alloc (.cells #[.int .u8 0, .int .u8 0, .int .u8 0, .int .u8 0, .int .u8 0, .int .u8 0, .int .u8 0, .int .u8 0, .int .u8 0, .int .u8 0] 39)) := s13.alloc s13.size _
        have q14 : tn (v13.alloc (.cells #[.int .u8 0, .int .u8 0, .int .u8 0, .int .u8 0, .int .u8 0, .int .u8 0, .int .u8 0, .int .u8 0, .int .u8 0, .int .u8 0] 39)) v13.heap.size = true := tn_of (Blk.new v13 _ _) rfl
        have t5_14 := tn_on t5_13 (below_alloc_ v13 (.cells #[.int .u8 0, .int .u8 0, .int .u8 0, .int .u8 0, .int .u8 0, .int .u8 0, .int .u8 0, .int .u8 0, .int .u8 0, .int .u8 0] 39))
        have ne : v13.heap.size ≠ v1.heap.size := Nat.ne_of_gt (tn_lt t5_13)
        refine hK.out _ _ s14 (fun _ => ?_)
        clear hK K
        try simp only [Act.put, List.setIfInBounds_toArray, List.set_cons_zero, List.set_cons_succ]
        obtain ⟨v14, hv14⟩ : ∃ V, v13.alloc (.cells #[.int .u8 0, .int .u8 0, .int .u8 0, .int .u8 0, .int .u8 0, .int .u8 0, .int .u8 0, .int .u8 0, .int .u8 0, .int .u8 0] 39) = V := ⟨_, rfl⟩
        rw [hv14] at s14 q14 t5_14
        rw [hv14]
        clear hv14
        have t6 := tn_setRow v14 (v1.heap.size) (v13.heap.size) a t5_14
        refine nextS 6 (by kernel_rfl) (by rfl) (fun o ho K hK => ?_)
        simp only [List.getElem?_toArray, List.getElem?_cons_succ, List.getElem?_cons_zero, Option.some.injEq] at ho; subst ho
        go_simp
        have s6 : Below w0.heap.size w0 (v14.setRow (v13.heap.size) (nc a)) := below_setRow s14 s13.size _
        refine hK.out _ _ s6 (fun _ => ?_)
        clear hK K
        try simp only [Act.put, List.setIfInBounds_toArray, List.set_cons_zero, List.set_cons_succ]
        refine nextS 7 (by kernel_rfl) (by rfl) (fun o ho K hK => ?_)
        simp only [List.getElem?_toArray, List.getElem?_cons_succ, List.getElem?_cons_zero, Option.some.injEq] at ho; subst ho
        go_simp
        have s7 : Below w0.heap.size w0 ((v14.setRow (v13.heap.size) (nc a)).setRow (v1.heap.size) (nc b)) := below_setRow s6 s1.size _
        refine hK.out _ _ s7 (fun _ => ?_)
        clear hK K
        try simp only [Act.put, List.setIfInBounds_toArray, List.set_cons_zero, List.set_cons_succ]
        refine wpAnyH_done (by kernel_rfl) ?_ _
        refine NoPanic.normal ?_
        have RB := rd_set (v14.setRow (v13.heap.size) (nc a)) (v1.heap.size) b t6
        have RA : rd ((v14.setRow (v13.heap.size) (nc a)).setRow (v1.heap.size) (nc b)) ⟨v13.heap.size, 0, none⟩ = some a := by rw [rd_far _ _ _ _ ne]; exact rd_set _ _ _ q14
        obtain ⟨WF, hWF⟩ : ∃ WF, (v14.setRow (v13.heap.size) (nc a)).setRow (v1.heap.size) (nc b) = WF := ⟨_, rfl⟩
        rw [hWF] at s7 RA RB
        rw [hWF]
        clear hWF
        have bF := below_on b0 b0.size s7
        have cq := Lib.hid (fun p => bytes_compare (some ⟨v13.heap.size, 0, none⟩) (some ⟨v1.heap.size, 0, none⟩) 10 10 10 10 a.l b.l (D.cmp a.l b.l) (ext WF p) ((row_rd RA).on (ext_below WF p)) ((row_rd RB).on (ext_below WF p)) ⟨a.lt⟩ ⟨b.lt⟩ ⟨rfl⟩)
        obtain ⟨r, hr⟩ : ∃ r, D.cmp a.l b.l = r := ⟨_, rfl⟩
        rw [hr] at cq
        have HR := Lib.hid hr
        clear hr
        go_wp2_with fail
        refine wp_region_ext (by kernel_rfl) (by kernel_rfl) ?_
        repeat (go_big_quiet_step ((go_at_call 40; exact calls_same (cq.out _))))
        refine wpQuiet_nil ?_
        intro w9 hw9
        have b9 := bF.trans ((ext_to hw9).mono bF.size)
        clear hw9
        go_wp2
        go_ret
        exact ⟨by show Ending.returned (.bool (decide (r < 0))) = _; rw [HR.out], b9⟩
      · simp only [List.getElem?_toArray, List.getElem?_cons_succ, List.getElem?_cons_zero, Option.some.injEq] at ho; subst ho
        go_simp
        have s15 : Below w0.heap.size w0 (v12.alloc (.cells #[.int .u8 0, .int .u8 0, .int .u8 0, .int .u8 0, .int .u8 0, .int .u8 0, .int .u8 0, .int .u8 0, .int .u8 0, .int .u8 0] 39)) := s12.alloc s12.size _
        have q15 : tn (v12.alloc (.cells #[.int .u8 0, .int .u8 0, .int .u8 0, .int .u8 0, .int .u8 0, .int .u8 0, .int .u8 0, .int .u8 0, .int .u8 0, .int .u8 0] 39)) v12.heap.size = true := tn_of (Blk.new v12 _ _) rfl
        have t5_15 := tn_on q12 (below_alloc_ v12 (.cells #[.int .u8 0, .int .u8 0, .int .u8 0, .int .u8 0, .int .u8 0, .int .u8 0, .int .u8 0, .int .u8 0, .int .u8 0, .int .u8 0] 39))
        have ne : v12.heap.size ≠ v1.heap.size := Nat.ne_of_gt (tn_lt q12)
        refine hK.out _ _ s15 (fun _ => ?_)
        clear hK K
        try simp only [Act.put, List.setIfInBounds_toArray, List.set_cons_zero, List.set_cons_succ]
        obtain ⟨v15, hv15⟩ : ∃ V, v12.alloc (.cells #[.int .u8 0, .int .u8 0, .int .u8 0, .int .u8 0, .int .u8 0, .int .u8 0, .int .u8 0, .int .u8 0, .int .u8 0, .int .u8 0] 39) = V := ⟨_, rfl⟩
        rw [hv15] at s15 q15 t5_15
        rw [hv15]
        clear hv15
        refine nextS 3 (by kernel_rfl) (by rfl) (fun o ho K hK => ?_)
        simp only [List.getElem?_toArray, List.getElem?_cons_succ, List.getElem?_cons_zero, Option.some.injEq] at ho; subst ho
        go_simp
        (go_at_call 16; (with_reducible refine (CB.out _).mono ?_); rintro e v16 ⟨rfl, b16⟩)
        have s16 : Below w0.heap.size w0 v16 := below_on s15 s15.size b16
        have t4_16 := tn_on q15 b16
        have t5_16 := tn_on t5_15 b16
        refine hK.out _ _ s16 (fun _ => ?_)
        clear hK K
        try simp only [Act.put, List.setIfInBounds_toArray, List.set_cons_zero, List.set_cons_succ]
        have t6 := tn_setRow v16 (v1.heap.size) (v12.heap.size) a t5_16
        refine nextS 6 (by kernel_rfl) (by rfl) (fun o ho K hK => ?_)
        simp only [List.getElem?_toArray, List.getElem?_cons_succ, List.getElem?_cons_zero, Option.some.injEq] at ho; subst ho
        go_simp
        have s6 : Below w0.heap.size w0 (v16.setRow (v12.heap.size) (nc a)) := below_setRow s16 s12.size _
        refine hK.out _ _ s6 (fun _ => ?_)
        clear hK K
        try simp only [Act.put, List.setIfInBounds_toArray, List.set_cons_zero, List.set_cons_succ]
        refine nextS 7 (by kernel_rfl) (by rfl) (fun o ho K hK => ?_)
        simp only [List.getElem?_toArray, List.getElem?_cons_succ, List.getElem?_cons_zero, Option.some.injEq] at ho; subst ho
        go_simp
        have s7 : Below w0.heap.size w0 ((v16.setRow (v12.heap.size) (nc a)).setRow (v1.heap.size) (nc b)) := below_setRow s6 s1.size _
        refine hK.out _ _ s7 (fun _ => ?_)
        clear hK K
        try simp only [Act.put, List.setIfInBounds_toArray, List.set_cons_zero, List.set_cons_succ]
        refine wpAnyH_done (by kernel_rfl) ?_ _
        refine NoPanic.normal ?_
        have RB := rd_set (v16.setRow (v12.heap.size) (nc a)) (v1.heap.size) b t6
        have RA : rd ((v16.setRow (v12.heap.size) (nc a)).setRow (v1.heap.size) (nc b)) ⟨v12.heap.size, 0, none⟩ = some a := by rw [rd_far _ _ _ _ ne]; exact rd_set _ _ _ t4_16
        obtain ⟨WF, hWF⟩ : ∃ WF, (v16.setRow (v12.heap.size) (nc a)).setRow (v1.heap.size) (nc b) = WF := ⟨_, rfl⟩
        rw [hWF] at s7 RA RB
        rw [hWF]
        clear hWF
        have bF := below_on b0 b0.size s7
        have cq := Lib.hid (fun p => bytes_compare (some ⟨v12.heap.size, 0, none⟩) (some ⟨v1.heap.size, 0, none⟩) 10 10 10 10 a.l b.l (D.cmp a.l b.l) (ext WF p) ((row_rd RA).on (ext_below WF p)) ((row_rd RB).on (ext_below WF p)) ⟨a.lt⟩ ⟨b.lt⟩ ⟨rfl⟩)
        obtain ⟨r, hr⟩ : ∃ r, D.cmp a.l b.l = r := ⟨_, rfl⟩
        rw [hr] at cq
        have HR := Lib.hid hr
        clear hr
        go_wp2_with fail
        refine wp_region_ext (by kernel_rfl) (by kernel_rfl) ?_
        repeat (go_big_quiet_step ((go_at_call 40; exact calls_same (cq.out _))))
        refine wpQuiet_nil ?_
        intro w9 hw9
        have b9 := bF.trans ((ext_to hw9).mono bF.size)
        clear hw9
        go_wp2
        go_ret
        exact ⟨by show Ending.returned (.bool (decide (r < 0))) = _; rw [HR.out], b9⟩
  · simp only [List.getElem?_toArray, List.getElem?_cons_succ, List.getElem?_cons_zero, Option.some.injEq] at ho; subst ho
    go_simp
    have s17 : Below w0.heap.size w0 (wd.alloc (.cells #[.int .u8 0, .int .u8 0, .int .u8 0, .int .u8 0, .int .u8 0, .int .u8 0, .int .u8 0, .int .u8 0, .int .u8 0, .int .u8 0] 39)) := sd.alloc sd.size _
    have q17 : tn (wd.alloc (.cells #[.int .u8 0, .int .u8 0, .int .u8 0, .int .u8 0, .int .u8 0, .int .u8 0, .int .u8 0, .int .u8 0, .int .u8 0, .int .u8 0] 39)) wd.heap.size = true := tn_of (Blk.new wd _ _) rfl
    refine hK.out _ _ s17 (fun _ => ?_)
    clear hK K
    try simp only [Act.put, List.setIfInBounds_toArray, List.set_cons_zero, List.set_cons_succ]
    obtain ⟨v17, hv17⟩ : ∃ V, wd.alloc (.cells #[.int .u8 0, .int .u8 0, .int .u8 0, .int .u8 0, .int .u8 0, .int .u8 0, .int .u8 0, .int .u8 0, .int .u8 0, .int .u8 0] 39) = V := ⟨_, rfl⟩
    rw [hv17] at s17 q17
    rw [hv17]
    clear hv17
    refine forkS 1 5 (by kernel_rfl) (by rfl) (by rfl) (fun o ho K hK => ?_) (fun o ho K hK => ?_)
    · simp only [List.getElem?_toArray, List.getElem?_cons_succ, List.getElem?_cons_zero, Option.some.injEq] at ho; subst ho
      go_simp
      (go_at_call 16; (with_reducible refine (CA.out _).mono ?_); rintro e v18 ⟨rfl, b18⟩)
      have s18 : Below w0.heap.size w0 v18 := below_on s17 s17.size b18
      have t4_18 := tn_on q17 b18
      refine hK.out _ _ s18 (fun _ => ?_)
      clear hK K
      try simp only [Act.put, List.setIfInBounds_toArray, List.set_cons_zero, List.set_cons_succ]
      refine forkS 3 5 (by kernel_rfl) (by rfl) (by rfl) (fun o ho K hK => ?_) (fun o ho K hK => ?_)
      · simp only [List.getElem?_toArray, List.getElem?_cons_succ, List.getElem?_cons_zero, Option.some.injEq] at ho; subst ho
        go_simp
        (go_at_call 16; (with_reducible refine (CB.out _).mono ?_); rintro e v19 ⟨rfl, b19⟩)
        have s19 : Below w0.heap.size w0 v19 := below_on s18 s18.size b19
        have t4_19 := tn_on t4_18 b19
        refine hK.out _ _ s19 (fun _ => ?_)
        clear hK K
        try simp only [Act.put, List.setIfInBounds_toArray, List.set_cons_zero, List.set_cons_succ]
        refine nextS 5 (by kernel_rfl) (by rfl) (fun o ho K hK => ?_)
        simp only [List.getElem?_toArray, List.getElem?_cons_succ, List.getElem?_cons_zero, Option.some.injEq] at ho; subst ho
        go_simp
        have s20 : Below w0.heap.size w0 (v19.alloc (.cells #[.int .u8 0, .int .u8 0, .int .u8 0, .int .u8 0, .int .u8 0, .int .u8 0, .int .u8 0, .int .u8 0, .int .u8 0, .int .u8 0] 39)) := s19.alloc s19.size _
        have q20 : tn (v19.alloc (.cells #[.int .u8 0, .int .u8 0, .int .u8 0, .int .u8 0, .int .u8 0, .int .u8 0, .int .u8 0, .int .u8 0, .int .u8 0, .int .u8 0] 39)) v19.heap.size = true := tn_of (Blk.new v19 _ _) rfl
        have t4_20 := tn_on t4_19 (below_alloc_ v19 (.cells #[.int .u8 0, .int .u8 0, .int .u8 0, .int .u8 0, .int .u8 0, .int .u8 0, .int .u8 0, .int .u8 0, .int .u8 0, .int .u8 0] 39))
        have ne : wd.heap.size ≠ v19.heap.size := Nat.ne_of_lt (tn_lt t4_19)
        refine hK.out _ _ s20 (fun _ => ?_)
        clear hK K
        try simp only [Act.put, List.setIfInBounds_toArray, List.set_cons_zero, List.set_cons_succ]
        obtain ⟨v20, hv20⟩ : ∃ V, v19.alloc (.cells #[.int .u8 0, .int .u8 0, .int .u8 0, .int .u8 0, .int .u8 0, .int .u8 0, .int .u8 0, .int .u8 0, .int .u8 0, .int .u8 0] 39) = V := ⟨_, rfl⟩
        rw [hv20] at s20 q20 t4_20
        rw [hv20]
        clear hv20
        have t6 := tn_setRow v20 (v19.heap.size) (wd.heap.size) a q20
        refine nextS 6 (by kernel_rfl) (by rfl) (fun o ho K hK => ?_)
        simp only [List.getElem?_toArray, List.getElem?_cons_succ, List.getElem?_cons_zero, Option.some.injEq] at ho; subst ho
        go_simp
        have s6 : Below w0.heap.size w0 (v20.setRow (wd.heap.size) (nc a)) := below_setRow s20 sd.size _
        refine hK.out _ _ s6 (fun _ => ?_)
        clear hK K
        try simp only [Act.put, List.setIfInBounds_toArray, List.set_cons_zero, List.set_cons_succ]
        refine nextS 7 (by kernel_rfl) (by rfl) (fun o ho K hK => ?_)
        simp only [List.getElem?_toArray, List.getElem?_cons_succ, List.getElem?_cons_zero, Option.some.injEq] at ho; subst ho
        go_simp
        have s7 : Below w0.heap.size w0 ((v20.setRow (wd.heap.size) (nc a)).setRow (v19.heap.size) (nc b)) := below_setRow s6 s19.size _
        refine hK.out _ _ s7 (fun _ => ?_)
        clear hK K
        try simp only [Act.put, List.setIfInBounds_toArray, List.set_cons_zero, List.set_cons_succ]
        refine wpAnyH_done (by kernel_rfl) ?_ _
        refine NoPanic.normal ?_
        have RB := rd_set (v20.setRow (wd.heap.size) (nc a)) (v19.heap.size) b t6
        have RA : rd ((v20.setRow (wd.heap.size) (nc a)).setRow (v19.heap.size) (nc b)) ⟨wd.heap.size, 0, none⟩ = some a := by rw [rd_far _ _ _ _ ne]; exact rd_set _ _ _ t4_20
        obtain ⟨WF, hWF⟩ : ∃ WF, (v20.setRow (wd.heap.size) (nc a)).setRow (v19.heap.size) (nc b) = WF := ⟨_, rfl⟩
        rw [hWF] at s7 RA RB
        rw [hWF]
        clear hWF
        have bF := below_on b0 b0.size s7
        have cq := Lib.hid (fun p => bytes_compare (some ⟨wd.heap.size, 0, none⟩) (some ⟨v19.heap.size, 0, none⟩) 10 10 10 10 a.l b.l (D.cmp a.l b.l) (ext WF p) ((row_rd RA).on (ext_below WF p)) ((row_rd RB).on (ext_below WF p)) ⟨a.lt⟩ ⟨b.lt⟩ ⟨rfl⟩)
        obtain ⟨r, hr⟩ : ∃ r, D.cmp a.l b.l = r := ⟨_, rfl⟩
        rw [hr] at cq
        have HR := Lib.hid hr
        clear hr
        go_wp2_with fail
        refine wp_region_ext (by kernel_rfl) (by kernel_rfl) ?_
        repeat (go_big_quiet_step ((go_at_call 40; exact calls_same (cq.out _))))
        refine wpQuiet_nil ?_
        intro w9 hw9
        have b9 := bF.trans ((ext_to hw9).mono bF.size)
        clear hw9
        go_wp2
        go_ret
        exact ⟨by show Ending.returned (.bool (decide (r < 0))) = _; rw [HR.out], b9⟩
      · simp only [List.getElem?_toArray, List.getElem?_cons_succ, List.getElem?_cons_zero, Option.some.injEq] at ho; subst ho
        go_simp
        have s21 : Below w0.heap.size w0 (v18.alloc (.cells #[.int .u8 0, .int .u8 0, .int .u8 0, .int .u8 0, .int .u8 0, .int .u8 0, .int .u8 0, .int .u8 0, .int .u8 0, .int .u8 0] 39)) := s18.alloc s18.size _
        have q21 : tn (v18.alloc (.cells #[.int .u8 0, .int .u8 0, .int .u8 0, .int .u8 0, .int .u8 0, .int .u8 0, .int .u8 0, .int .u8 0, .int .u8 0, .int .u8 0] 39)) v18.heap.size = true := tn_of (Blk.new v18 _ _) rfl
        have t4_21 := tn_on t4_18 (below_alloc_ v18 (.cells #[.int .u8 0, .int .u8 0, .int .u8 0, .int .u8 0, .int .u8 0, .int .u8 0, .int .u8 0, .int .u8 0, .int .u8 0, .int .u8 0] 39))
        have ne : wd.heap.size ≠ v18.heap.size := Nat.ne_of_lt (tn_lt t4_18)
        refine hK.out _ _ s21 (fun _ => ?_)
        clear hK K
        try simp only [Act.put, List.setIfInBounds_toArray, List.set_cons_zero, List.set_cons_succ]
        obtain ⟨v21, hv21⟩ : ∃ V, v18.alloc (.cells #[.int .u8 0, .int .u8 0, .int .u8 0, .int .u8 0, .int .u8 0, .int .u8 0, .int .u8 0, .int .u8 0, .int .u8 0, .int .u8 0] 39) = V := ⟨_, rfl⟩
        rw [hv21] at s21 q21 t4_21
        rw [hv21]
        clear hv21
        refine nextS 3 (by kernel_rfl) (by rfl) (fun o ho K hK => ?_)
        simp only [List.getElem?_toArray, List.getElem?_cons_succ, List.getElem?_cons_zero, Option.some.injEq] at ho; subst ho
        go_simp
        (go_at_call 16; (with_reducible refine (CB.out _).mono ?_); rintro e v22 ⟨rfl, b22⟩)
        have s22 : Below w0.heap.size w0 v22 := below_on s21 s21.size b22
        have t4_22 := tn_on t4_21 b22
        have t5_22 := tn_on q21 b22
        refine hK.out _ _ s22 (fun _ => ?_)
        clear hK K
        try simp only [Act.put, List.setIfInBounds_toArray, List.set_cons_zero, List.set_cons_succ]
        have t6 := tn_setRow v22 (v18.heap.size) (wd.heap.size) a t5_22
        refine nextS 6 (by kernel_rfl) (by rfl) (fun o ho K hK => ?_)
        simp only [List.getElem?_toArray, List.getElem?_cons_succ, List.getElem?_cons_zero, Option.some.injEq] at ho; subst ho
        go_simp
        have s6 : Below w0.heap.size w0 (v22.setRow (wd.heap.size) (nc a)) := below_setRow s22 sd.size _
        refine hK.out _ _ s6 (fun _ => ?_)
        clear hK K
        try simp only [Act.put, List.setIfInBounds_toArray, List.set_cons_zero, List.set_cons_succ]
        refine nextS 7 (by kernel_rfl) (by rfl) (fun o ho K hK => ?_)
        simp only [List.getElem?_toArray, List.getElem?_cons_succ, List.getElem?_cons_zero, Option.some.injEq] at ho; subst ho
        go_simp
        have s7 : Below w0.heap.size w0 ((v22.setRow (wd.heap.size) (nc a)).setRow (v18.heap.size) (nc b)) := below_setRow s6 s18.size _
        refine hK.out _ _ s7 (fun _ => ?_)
        clear hK K
        try simp only [Act.put, List.setIfInBounds_toArray, List.set_cons_zero, List.set_cons_succ]
        refine wpAnyH_done (by kernel_rfl) ?_ _
        refine NoPanic.normal ?_
        have RB := rd_set (v22.setRow (wd.heap.size) (nc a)) (v18.heap.size) b t6
        have RA : rd ((v22.setRow (wd.heap.size) (nc a)).setRow (v18.heap.size) (nc b)) ⟨wd.heap.size, 0, none⟩ = some a := by rw [rd_far _ _ _ _ ne]; exact rd_set _ _ _ t4_22
        obtain ⟨WF, hWF⟩ : ∃ WF, (v22.setRow (wd.heap.size) (nc a)).setRow (v18.heap.size) (nc b) = WF := ⟨_, rfl⟩
        rw [hWF] at s7 RA RB
        rw [hWF]
        clear hWF
        have bF := below_on b0 b0.size s7
        have cq := Lib.hid (fun p => bytes_compare (some ⟨wd.heap.size, 0, none⟩) (some ⟨v18.heap.size, 0, none⟩) 10 10 10 10 a.l b.l (D.cmp a.l b.l) (ext WF p) ((row_rd RA).on (ext_below WF p)) ((row_rd RB).on (ext_below WF p)) ⟨a.lt⟩ ⟨b.lt⟩ ⟨rfl⟩)
        obtain ⟨r, hr⟩ : ∃ r, D.cmp a.l b.l = r := ⟨_, rfl⟩
        rw [hr] at cq
        have HR := Lib.hid hr
        clear hr
        go_wp2_with fail
        refine wp_region_ext (by kernel_rfl) (by kernel_rfl) ?_
        repeat (go_big_quiet_step ((go_at_call 40; exact calls_same (cq.out _))))
        refine wpQuiet_nil ?_
        intro w9 hw9
        have b9 := bF.trans ((ext_to hw9).mono bF.size)
        clear hw9
        go_wp2
        go_ret
        exact ⟨by show Ending.returned (.bool (decide (r < 0))) = _; rw [HR.out], b9⟩
    · simp only [List.getElem?_toArray, List.getElem?_cons_succ, List.getElem?_cons_zero, Option.some.injEq] at ho; subst ho
      go_simp
      have s23 : Below w0.heap.size w0 (v17.alloc (.cells #[.int .u8 0, .int .u8 0, .int .u8 0, .int .u8 0, .int .u8 0, .int .u8 0, .int .u8 0, .int .u8 0, .int .u8 0, .int .u8 0] 39)) := s17.alloc s17.size _
      have q23 : tn (v17.alloc (.cells #[.int .u8 0, .int .u8 0, .int .u8 0, .int .u8 0, .int .u8 0, .int .u8 0, .int .u8 0, .int .u8 0, .int .u8 0, .int .u8 0] 39)) v17.heap.size = true := tn_of (Blk.new v17 _ _) rfl
      have t4_23 := tn_on q17 (below_alloc_ v17 (.cells #[.int .u8 0, .int .u8 0, .int .u8 0, .int .u8 0, .int .u8 0, .int .u8 0, .int .u8 0, .int .u8 0, .int .u8 0, .int .u8 0] 39))
      have ne : wd.heap.size ≠ v17.heap.size := Nat.ne_of_lt (tn_lt q17)
      refine hK.out _ _ s23 (fun _ => ?_)
      clear hK K
      try simp only [Act.put, List.setIfInBounds_toArray, List.set_cons_zero, List.set_cons_succ]
      obtain ⟨v23, hv23⟩ : ∃ V, v17.alloc (.cells #[.int .u8 0, .int .u8 0, .int .u8 0, .int .u8 0, .int .u8 0, .int .u8 0, .int .u8 0, .int .u8 0, .int .u8 0, .int .u8 0] 39) = V := ⟨_, rfl⟩
      rw [hv23] at s23 q23 t4_23
      rw [hv23]
      clear hv23
      refine nextS 1 (by kernel_rfl) (by rfl) (fun o ho K hK => ?_)
      simp only [List.getElem?_toArray, List.getElem?_cons_succ, List.getElem?_cons_zero, Option.some.injEq] at ho; subst ho
      go_simp
      (go_at_call 16; (with_reducible refine (CA.out _).mono ?_); rintro e v24 ⟨rfl, b24⟩)
      have s24 : Below w0.heap.size w0 v24 := below_on s23 s23.size b24
      have t4_24 := tn_on t4_23 b24
      have t5_24 := tn_on q23 b24
      refine hK.out _ _ s24 (fun _ => ?_)
      clear hK K
      try simp only [Act.put, List.setIfInBounds_toArray, List.set_cons_zero, List.set_cons_succ]
      refine nextS 3 (by kernel_rfl) (by rfl) (fun o ho K hK => ?_)
      simp only [List.getElem?_toArray, List.getElem?_cons_succ, List.getElem?_cons_zero, Option.some.injEq] at ho; subst ho
      go_simp
      (go_at_call 16; (with_reducible refine (CB.out _).mono ?_); rintro e v25 ⟨rfl, b25⟩)
      have s25 : Below w0.heap.size w0 v25 := below_on s24 s24.size b25
      have t4_25 := tn_on t4_24 b25
      have t5_25 := tn_on t5_24 b25
      refine hK.out _ _ s25 (fun _ => ?_)
      clear hK K
      try simp only [Act.put, List.setIfInBounds_toArray, List.set_cons_zero, List.set_cons_succ]
      have t6 := tn_setRow v25 (v17.heap.size) (wd.heap.size) a t5_25
      refine nextS 6 (by kernel_rfl) (by rfl) (fun o ho K hK => ?_)
      simp only [List.getElem?_toArray, List.getElem?_cons_succ, List.getElem?_cons_zero, Option.some.injEq] at ho; subst ho
      go_simp
      have s6 : Below w0.heap.size w0 (v25.setRow (wd.heap.size) (nc a)) := below_setRow s25 sd.size _
      refine hK.out _ _ s6 (fun _ => ?_)
      clear hK K
      try simp only [Act.put, List.setIfInBounds_toArray, List.set_cons_zero, List.set_cons_succ]
      refine nextS 7 (by kernel_rfl) (by rfl) (fun o ho K hK => ?_)
      simp only [List.getElem?_toArray, List.getElem?_cons_succ, List.getElem?_cons_zero, Option.some.injEq] at ho; subst ho
      go_simp
      have s7 : Below w0.heap.size w0 ((v25.setRow (wd.heap.size) (nc a)).setRow (v17.heap.size) (nc b)) := below_setRow s6 s17.size _
      refine hK.out _ _ s7 (fun _ => ?_)
      clear hK K
      try simp only [Act.put, List.setIfInBounds_toArray, List.set_cons_zero, List.set_cons_succ]
      refine wpAnyH_done (by kernel_rfl) ?_ _
      refine NoPanic.normal ?_
      have RB := rd_set (v25.setRow (wd.heap.size) (nc a)) (v17.heap.size) b t6
      have RA : rd ((v25.setRow (wd.heap.size) (nc a)).setRow (v17.heap.size) (nc b)) ⟨wd.heap.size, 0, none⟩ = some a := by rw [rd_far _ _ _ _ ne]; exact rd_set _ _ _ t4_25
      obtain ⟨WF, hWF⟩ : ∃ WF, (v25.setRow (wd.heap.size) (nc a)).setRow (v17.heap.size) (nc b) = WF := ⟨_, rfl⟩
      rw [hWF] at s7 RA RB
      rw [hWF]
      clear hWF
      have bF := below_on b0 b0.size s7
      have cq := Lib.hid (fun p => bytes_compare (some ⟨wd.heap.size, 0, none⟩) (some ⟨v17.heap.size, 0, none⟩) 10 10 10 10 a.l b.l (D.cmp a.l b.l) (ext WF p) ((row_rd RA).on (ext_below WF p)) ((row_rd RB).on (ext_below WF p)) ⟨a.lt⟩ ⟨b.lt⟩ ⟨rfl⟩)
      obtain ⟨r, hr⟩ : ∃ r, D.cmp a.l b.l = r := ⟨_, rfl⟩
      rw [hr] at cq
      have HR := Lib.hid hr
      clear hr
      go_wp2_with fail
      refine wp_region_ext (by kernel_rfl) (by kernel_rfl) ?_
      repeat (go_big_quiet_step ((go_at_call 40; exact calls_same (cq.out _))))
      refine wpQuiet_nil ?_
      intro w9 hw9
      have b9 := bF.trans ((ext_to hw9).mono bF.size)
      clear hw9
      go_wp2
      go_ret
      exact ⟨by show Ending.returned (.bool (decide (r < 0))) = _; rw [HR.out], b9⟩
  · simp only [List.getElem?_toArray, List.getElem?_cons_succ, List.getElem?_cons_zero, Option.some.injEq] at ho; subst ho
    go_simp
    have s26 : Below w0.heap.size w0 (wd.alloc (.cells #[.int .u8 0, .int .u8 0, .int .u8 0, .int .u8 0, .int .u8 0, .int .u8 0, .int .u8 0, .int .u8 0, .int .u8 0, .int .u8 0] 39)) := sd.alloc sd.size _
    have q26 : tn (wd.alloc (.cells #[.int .u8 0, .int .u8 0, .int .u8 0, .int .u8 0, .int .u8 0, .int .u8 0, .int .u8 0, .int .u8 0, .int .u8 0, .int .u8 0] 39)) wd.heap.size = true := tn_of (Blk.new wd _ _) rfl
    refine hK.out _ _ s26 (fun _ => ?_)
    clear hK K
    try simp only [Act.put, List.setIfInBounds_toArray, List.set_cons_zero, List.set_cons_succ]
    obtain ⟨v26, hv26⟩ : ∃ V, wd.alloc (.cells #[.int .u8 0, .int .u8 0, .int .u8 0, .int .u8 0, .int .u8 0, .int .u8 0, .int .u8 0, .int .u8 0, .int .u8 0, .int .u8 0] 39) = V := ⟨_, rfl⟩
    rw [hv26] at s26 q26
    rw [hv26]
    clear hv26
    refine forkS 1 4 (by kernel_rfl) (by rfl) (by rfl) (fun o ho K hK => ?_) (fun o ho K hK => ?_)
    · simp only [List.getElem?_toArray, List.getElem?_cons_succ, List.getElem?_cons_zero, Option.some.injEq] at ho; subst ho
      go_simp
      (go_at_call 16; (with_reducible refine (CA.out _).mono ?_); rintro e v27 ⟨rfl, b27⟩)
      have s27 : Below w0.heap.size w0 v27 := below_on s26 s26.size b27
      have t5_27 := tn_on q26 b27
      refine hK.out _ _ s27 (fun _ => ?_)
      clear hK K
      try simp only [Act.put, List.setIfInBounds_toArray, List.set_cons_zero, List.set_cons_succ]
      refine forkS 3 4 (by kernel_rfl) (by rfl) (by rfl) (fun o ho K hK => ?_) (fun o ho K hK => ?_)
      · simp only [List.getElem?_toArray, List.getElem?_cons_succ, List.getElem?_cons_zero, Option.some.injEq] at ho; subst ho
        go_simp
        (go_at_call 16; (with_reducible refine (CB.out _).mono ?_); rintro e v28 ⟨rfl, b28⟩)
        have s28 : Below w0.heap.size w0 v28 := below_on s27 s27.size b28
        have t5_28 := tn_on t5_27 b28
        refine hK.out _ _ s28 (fun _ => ?_)
        clear hK K
        try simp only [Act.put, List.setIfInBounds_toArray, List.set_cons_zero, List.set_cons_succ]
        refine nextS 4 (by kernel_rfl) (by rfl) (fun o ho K hK => ?_)
        simp only [List.getElem?_toArray, List.getElem?_cons_succ, List.getElem?_cons_zero, Option.some.injEq] at ho; subst ho
        go_simp
        have s29 : Below w0.heap.size w0 (v28.alloc (.cells #[.int .u8 0, .int .u8 0, .int .u8 0, .int .u8 0, .int .u8 0, .int .u8 0, .int .u8 0, .int .u8 0, .int .u8 0, .int .u8 0] 39)) := s28.alloc s28.size _
        have q29 : tn (v28.alloc (.cells #[.int .u8 0, .int .u8 0, .int .u8 0, .int .u8 0, .int .u8 0, .int .u8 0, .int .u8 0, .int .u8 0, .int .u8 0, .int .u8 0] 39)) v28.heap.size = true := tn_of (Blk.new v28 _ _) rfl
        have t5_29 := tn_on t5_28 (below_alloc_ v28 (.cells #[.int .u8 0, .int .u8 0, .int .u8 0, .int .u8 0, .int .u8 0, .int .u8 0, .int .u8 0, .int .u8 0, .int .u8 0, .int .u8 0] 39))
        have ne : v28.heap.size ≠ wd.heap.size := Nat.ne_of_gt (tn_lt t5_28)
        refine hK.out _ _ s29 (fun _ => ?_)
        clear hK K
        try simp only [Act.put, List.setIfInBounds_toArray, List.set_cons_zero, List.set_cons_succ]
        obtain ⟨v29, hv29⟩ : ∃ V, v28.alloc (.cells #[.int .u8 0, .int .u8 0, .int .u8 0, .int .u8 0, .int .u8 0, .int .u8 0, .int .u8 0, .int .u8 0, .int .u8 0, .int .u8 0] 39) = V := ⟨_, rfl⟩
        rw [hv29] at s29 q29 t5_29
        rw [hv29]
        clear hv29
        have t6 := tn_setRow v29 (wd.heap.size) (v28.heap.size) a t5_29
        refine nextS 6 (by kernel_rfl) (by rfl) (fun o ho K hK => ?_)
        simp only [List.getElem?_toArray, List.getElem?_cons_succ, List.getElem?_cons_zero, Option.some.injEq] at ho; subst ho
        go_simp
        have s6 : Below w0.heap.size w0 (v29.setRow (v28.heap.size) (nc a)) := below_setRow s29 s28.size _
        refine hK.out _ _ s6 (fun _ => ?_)
        clear hK K
        try simp only [Act.put, List.setIfInBounds_toArray, List.set_cons_zero, List.set_cons_succ]
        refine nextS 7 (by kernel_rfl) (by rfl) (fun o ho K hK => ?_)
        simp only [List.getElem?_toArray, List.getElem?_cons_succ, List.getElem?_cons_zero, Option.some.injEq] at ho; subst ho
        go_simp
        have s7 : Below w0.heap.size w0 ((v29.setRow (v28.heap.size) (nc a)).setRow (wd.heap.size) (nc b)) := below_setRow s6 sd.size _
        refine hK.out _ _ s7 (fun _ => ?_)
        clear hK K
        try simp only [Act.put, List.setIfInBounds_toArray, List.set_cons_zero, List.set_cons_succ]
        refine wpAnyH_done (by kernel_rfl) ?_ _
        refine NoPanic.normal ?_
        have RB := rd_set (v29.setRow (v28.heap.size) (nc a)) (wd.heap.size) b t6
        have RA : rd ((v29.setRow (v28.heap.size) (nc a)).setRow (wd.heap.size) (nc b)) ⟨v28.heap.size, 0, none⟩ = some a := by rw [rd_far _ _ _ _ ne]; exact rd_set _ _ _ q29
        obtain ⟨WF, hWF⟩ : ∃ WF, (v29.setRow (v28.heap.size) (nc a)).setRow (wd.heap.size) (nc b) = WF := ⟨_, rfl⟩
        rw [hWF] at s7 RA RB
        rw [hWF]
        clear hWF
        have bF := below_on b0 b0.size s7
        have cq := Lib.hid (fun p => bytes_compare (some ⟨v28.heap.size, 0, none⟩) (some ⟨wd.heap.size, 0, none⟩) 10 10 10 10 a.l b.l (D.cmp a.l b.l) (ext WF p) ((row_rd RA).on (ext_below WF p)) ((row_rd RB).on (ext_below WF p)) ⟨a.lt⟩ ⟨b.lt⟩ ⟨rfl⟩)
        obtain ⟨r, hr⟩ : ∃ r, D.cmp a.l b.l = r := ⟨_, rfl⟩
        rw [hr] at cq
        have HR := Lib.hid hr
        clear hr
        go_wp2_with fail
        refine wp_region_ext (by kernel_rfl) (by kernel_rfl) ?_
        repeat (go_big_quiet_step ((go_at_call 40; exact calls_same (cq.out _))))
        refine wpQuiet_nil ?_
        intro w9 hw9
        have b9 := bF.trans ((ext_to hw9).mono bF.size)
        clear hw9
        go_wp2
        go_ret
        exact ⟨by show Ending.returned (.bool (decide (r < 0))) = _; rw [HR.out], b9⟩
      · simp only [List.getElem?_toArray, List.getElem?_cons_succ, List.getElem?_cons_zero, Option.some.injEq] at ho; subst ho
        go_simp
        have s30 : Below w0.heap.size w0 (v27.alloc (.cells #[.int .u8 0, .int .u8 0, .int .u8 0, .int .u8 0, .int .u8 0, .int .u8 0, .int .u8 0, .int .u8 0, .int .u8 0, .int .u8 0] 39)) := s27.alloc s27.size _
        have q30 : tn (v27.alloc (.cells #[.int .u8 0, .int .u8 0, .int .u8 0, .int .u8 0, .int .u8 0, .int .u8 0, .int .u8 0, .int .u8 0, .int .u8 0, .int .u8 0] 39)) v27.heap.size = true := tn_of (Blk.new v27 _ _) rfl
        have t5_30 := tn_on t5_27 (below_alloc_ v27 (.cells #[.int .u8 0, .int .u8 0, .int .u8 0, .int .u8 0, .int .u8 0, .int .u8 0, .int .u8 0, .int .u8 0, .int .u8 0, .int .u8 0] 39))
        have ne : v27.heap.size ≠ wd.heap.size := Nat.ne_of_gt (tn_lt t5_27)
        refine hK.out _ _ s30 (fun _ => ?_)
        clear hK K
        try simp only [Act.put, List.setIfInBounds_toArray, List.set_cons_zero, List.set_cons_succ]
        obtain ⟨v30, hv30⟩ : ∃ V, v27.alloc (.cells #[.int .u8 0, .int .u8 0, .int .u8 0, .int .u8 0, .int .u8 0, .int .u8 0, .int .u8 0, .int .u8 0, .int .u8 0, .int .u8 0] 39) = V := ⟨_, rfl⟩
        rw [hv30] at s30 q30 t5_30
        rw [hv30]
        clear hv30
        refine nextS 3 (by kernel_rfl) (by rfl) (fun o ho K hK => ?_)
        simp only [List.getElem?_toArray, List.getElem?_cons_succ, List.getElem?_cons_zero, Option.some.injEq] at ho; subst ho
        go_simp
        (go_at_call 16; (with_reducible refine (CB.out _).mono ?_); rintro e v31 ⟨rfl, b31⟩)
        have s31 : Below w0.heap.size w0 v31 := below_on s30 s30.size b31
        have t4_31 := tn_on q30 b31
        have t5_31 := tn_on t5_30 b31
        refine hK.out _ _ s31 (fun _ => ?_)
        clear hK K
        try simp only [Act.put, List.setIfInBounds_toArray, List.set_cons_zero, List.set_cons_succ]
        have t6 := tn_setRow v31 (wd.heap.size) (v27.heap.size) a t5_31
        refine nextS 6 (by kernel_rfl) (by rfl) (fun o ho K hK => ?_)
        simp only [List.getElem?_toArray, List.getElem?_cons_succ, List.getElem?_cons_zero, Option.some.injEq] at ho; subst ho
        go_simp
        have s6 : Below w0.heap.size w0 (v31.setRow (v27.heap.size) (nc a)) := below_setRow s31 s27.size _
        refine hK.out _ _ s6 (fun _ => ?_)
        clear hK K
        try simp only [Act.put, List.setIfInBounds_toArray, List.set_cons_zero, List.set_cons_succ]
        refine nextS 7 (by kernel_rfl) (by rfl) (fun o ho K hK => ?_)
        simp only [List.getElem?_toArray, List.getElem?_cons_succ, List.getElem?_cons_zero, Option.some.injEq] at ho; subst ho
        go_simp
        have s7 : Below w0.heap.size w0 ((v31.setRow (v27.heap.size) (nc a)).setRow (wd.heap.size) (nc b)) := below_setRow s6 sd.size _
        refine hK.out _ _ s7 (fun _ => ?_)
        clear hK K
        try simp only [Act.put, List.setIfInBounds_toArray, List.set_cons_zero, List.set_cons_succ]
        refine wpAnyH_done (by kernel_rfl) ?_ _
        refine NoPanic.normal ?_
        have RB := rd_set (v31.setRow (v27.heap.size) (nc a)) (wd.heap.size) b t6
        have RA : rd ((v31.setRow (v27.heap.size) (nc a)).setRow (wd.heap.size) (nc b)) ⟨v27.heap.size, 0, none⟩ = some a := by rw [rd_far _ _ _ _ ne]; exact rd_set _ _ _ t4_31
        obtain ⟨WF, hWF⟩ : ∃ WF, (v31.setRow (v27.heap.size) (nc a)).setRow (wd.heap.size) (nc b) = WF := ⟨_, rfl⟩
        rw [hWF] at s7 RA RB
        rw [hWF]
        clear hWF
        have bF := below_on b0 b0.size s7
        have cq := Lib.hid (fun p => bytes_compare (some ⟨v27.heap.size, 0, none⟩) (some ⟨wd.heap.size, 0, none⟩) 10 10 10 10 a.l b.l (D.cmp a.l b.l) (ext WF p) ((row_rd RA).on (ext_below WF p)) ((row_rd RB).on (ext_below WF p)) ⟨a.lt⟩ ⟨b.lt⟩ ⟨rfl⟩)
        obtain ⟨r, hr⟩ : ∃ r, D.cmp a.l b.l = r := ⟨_, rfl⟩
        rw [hr] at cq
        have HR := Lib.hid hr
        clear hr
        go_wp2_with fail
        refine wp_region_ext (by kernel_rfl) (by kernel_rfl) ?_
        repeat (go_big_quiet_step ((go_at_call 40; exact calls_same (cq.out _))))
        refine wpQuiet_nil ?_
        intro w9 hw9
        have b9 := bF.trans ((ext_to hw9).mono bF.size)
        clear hw9
        go_wp2
        go_ret
        exact ⟨by show Ending.returned (.bool (decide (r < 0))) = _; rw [HR.out], b9⟩
    · simp only [List.getElem?_toArray, List.getElem?_cons_succ, List.getElem?_cons_zero, Option.some.injEq] at ho; subst ho
      go_simp
      have s32 : Below w0.heap.size w0 (v26.alloc (.cells #[.int .u8 0, .int .u8 0, .int .u8 0, .int .u8 0, .int .u8 0, .int .u8 0, .int .u8 0, .int .u8 0, .int .u8 0, .int .u8 0] 39)) := s26.alloc s26.size _
      have q32 : tn (v26.alloc (.cells #[.int .u8 0, .int .u8 0, .int .u8 0, .int .u8 0, .int .u8 0, .int .u8 0, .int .u8 0, .int .u8 0, .int .u8 0, .int .u8 0] 39)) v26.heap.size = true := tn_of (Blk.new v26 _ _) rfl
      have t5_32 := tn_on q26 (below_alloc_ v26 (.cells #[.int .u8 0, .int .u8 0, .int .u8 0, .int .u8 0, .int .u8 0, .int .u8 0, .int .u8 0, .int .u8 0, .int .u8 0, .int .u8 0] 39))
      have ne : v26.heap.size ≠ wd.heap.size := Nat.ne_of_gt (tn_lt q26)
      refine hK.out _ _ s32 (fun _ => ?_)
      clear hK K
      try simp only [Act.put, List.setIfInBounds_toArray, List.set_cons_zero, List.set_cons_succ]
      obtain ⟨v32, hv32⟩ : ∃ V, v26.alloc (.cells #[.int .u8 0, .int .u8 0, .int .u8 0, .int .u8 0, .int .u8 0, .int .u8 0, .int .u8 0, .int .u8 0, .int .u8 0, .int .u8 0] 39) = V := ⟨_, rfl⟩
      rw [hv32] at s32 q32 t5_32
      rw [hv32]
      clear hv32
      refine nextS 1 (by kernel_rfl) (by rfl) (fun o ho K hK => ?_)
      simp only [List.getElem?_toArray, List.getElem?_cons_succ, List.getElem?_cons_zero, Option.some.injEq] at ho; subst ho
      go_simp
      (go_at_call 16; (with_reducible refine (CA.out _).mono ?_); rintro e v33 ⟨rfl, b33⟩)
      have s33 : Below w0.heap.size w0 v33 := below_on s32 s32.size b33
      have t4_33 := tn_on q32 b33
      have t5_33 := tn_on t5_32 b33
      refine hK.out _ _ s33 (fun _ => ?_)
      clear hK K
      try simp only [Act.put, List.setIfInBounds_toArray, List.set_cons_zero, List.set_cons_succ]
      refine nextS 3 (by kernel_rfl) (by rfl) (fun o ho K hK => ?_)
      simp only [List.getElem?_toArray, List.getElem?_cons_succ, List.getElem?_cons_zero, Option.some.injEq] at ho; subst ho
      go_simp
      (go_at_call 16; (with_reducible refine (CB.out _).mono ?_); rintro e v34 ⟨rfl, b34⟩)
      have s34 : Below w0.heap.size w0 v34 := below_on s33 s33.size b34
      have t4_34 := tn_on t4_33 b34
      have t5_34 := tn_on t5_33 b34
      refine hK.out _ _ s34 (fun _ => ?_)
      clear hK K
      try simp only [Act.put, List.setIfInBounds_toArray, List.set_cons_zero, List.set_cons_succ]
      have t6 := tn_setRow v34 (wd.heap.size) (v26.heap.size) a t5_34
      refine nextS 6 (by kernel_rfl) (by rfl) (fun o ho K hK => ?_)
      simp only [List.getElem?_toArray, List.getElem?_cons_succ, List.getElem?_cons_zero, Option.some.injEq] at ho; subst ho
      go_simp
      have s6 : Below w0.heap.size w0 (v34.setRow (v26.heap.size) (nc a)) := below_setRow s34 s26.size _
      refine hK.out _ _ s6 (fun _ => ?_)
      clear hK K
      try simp only [Act.put, List.setIfInBounds_toArray, List.set_cons_zero, List.set_cons_succ]
      refine nextS 7 (by kernel_rfl) (by rfl) (fun o ho K hK => ?_)
      simp only [List.getElem?_toArray, List.getElem?_cons_succ, List.getElem?_cons_zero, Option.some.injEq] at ho; subst ho
      go_simp
      have s7 : Below w0.heap.size w0 ((v34.setRow (v26.heap.size) (nc a)).setRow (wd.heap.size) (nc b)) := below_setRow s6 sd.size _
      refine hK.out _ _ s7 (fun _ => ?_)
      clear hK K
      try simp only [Act.put, List.setIfInBounds_toArray, List.set_cons_zero, List.set_cons_succ]
      refine wpAnyH_done (by kernel_rfl) ?_ _
      refine NoPanic.normal ?_
      have RB := rd_set (v34.setRow (v26.heap.size) (nc a)) (wd.heap.size) b t6
      have RA : rd ((v34.setRow (v26.heap.size) (nc a)).setRow (wd.heap.size) (nc b)) ⟨v26.heap.size, 0, none⟩ = some a := by rw [rd_far _ _ _ _ ne]; exact rd_set _ _ _ t4_34
      obtain ⟨WF, hWF⟩ : ∃ WF, (v34.setRow (v26.heap.size) (nc a)).setRow (wd.heap.size) (nc b) = WF := ⟨_, rfl⟩
      rw [hWF] at s7 RA RB
      rw [hWF]
      clear hWF
      have bF := below_on b0 b0.size s7
      have cq := Lib.hid (fun p => bytes_compare (some ⟨v26.heap.size, 0, none⟩) (some ⟨wd.heap.size, 0, none⟩) 10 10 10 10 a.l b.l (D.cmp a.l b.l) (ext WF p) ((row_rd RA).on (ext_below WF p)) ((row_rd RB).on (ext_below WF p)) ⟨a.lt⟩ ⟨b.lt⟩ ⟨rfl⟩)
      obtain ⟨r, hr⟩ : ∃ r, D.cmp a.l b.l = r := ⟨_, rfl⟩
      rw [hr] at cq
      have HR := Lib.hid hr
      clear hr
      go_wp2_with fail
      refine wp_region_ext (by kernel_rfl) (by kernel_rfl) ?_
      repeat (go_big_quiet_step ((go_at_call 40; exact calls_same (cq.out _))))
      refine wpQuiet_nil ?_
      intro w9 hw9
      have b9 := bF.trans ((ext_to hw9).mono bF.size)
      clear hw9
      go_wp2
      go_ret
      exact ⟨by show Ending.returned (.bool (decide (r < 0))) = _; rw [HR.out], b9⟩
end Go.Proofs.YtgbnaammphilhaaDoor
